/- Parts, joined. -/
import Derived.Test.YtaafhjngnjjcmaaGreatDoorJ37
import Derived.BigQuiet
/- What comes out: one output sample's sum (Sum). -/
namespace Go.Proofs.YtaafhjngnjjcmaaGreatDoor
open Go.RowKit

/-- Places and weights in a block of two. -/
def LineAt (w : World) (R : Nat) (p f n : Int) (ts : List Int) : Prop :=
  ∃ (P W : List Int) (N : Nat) (u v : Option Addr) (cu cv : Nat), w.cell? ⟨R, 0, none⟩ = some (.slice u N cu) ∧ w.cell? ⟨R, 1, none⟩ = some (.slice v N cv) ∧ P.length = N ∧ W.length = N ∧ RowAt .i64 w u P ∧ RowAt .i64 w v W ∧ Gath p f n ts P W
theorem LineAt.below {w w' : World} {R : Nat} {p f n : Int} {ts : List Int} (h : LineAt w R p f n ts) (hb : Below w.heap.size w w') : LineAt w' R p f n ts := by
  obtain ⟨P, W, N, u, v, cu, cv, c0, c1, hP, hW, ru, rv, g⟩ := h
  exact ⟨P, W, N, u, v, cu, cv, cb hb (cell_ltL c0) c0, cb hb (cell_ltL c1) c1, hP, hW, ru.below hb, rv.below hb, g⟩
/-- Two cells of a block, that may be written. -/
def S2 (w : World) (R : Nat) (v0 v1 : Value) : Prop := (w.cell? ⟨R, 0, none⟩ = some v0 ∧ w.frozen? ⟨R, 0, none⟩ = false) ∧ w.cell? ⟨R, 1, none⟩ = some v1 ∧ w.frozen? ⟨R, 1, none⟩ = false
theorem S2.mk {w : World} {R : Nat} {v0 v1 : Value} (a : w.cell? ⟨R, 0, none⟩ = some v0) (b : w.frozen? ⟨R, 0, none⟩ = false) (c : w.cell? ⟨R, 1, none⟩ = some v1) (d : w.frozen? ⟨R, 1, none⟩ = false) : S2 w R v0 v1 := ⟨⟨a, b⟩, c, d⟩
theorem S2.new (w : World) (T : TypeId) (v0 v1 : Value) : S2 (w.alloc (.cells #[v0, v1] T)) w.heap.size v0 v1 := by
  unfold S2
  simp
theorem S2.new2 (w : World) (o : Obj) (T : TypeId) (v0 v1 : Value) : S2 ((w.alloc o).alloc (.cells #[v0, v1] T)) (w.heap.size + 1) v0 v1 := by
  unfold S2
  simp
theorem S2.new3 (w : World) (o : Obj) (T : TypeId) (v0 v1 : Value) : S2 ((w.alloc o).drew.alloc (.cells #[v0, v1] T)) (w.heap.size + 1) v0 v1 := by
  have h := S2.new (w.alloc o).drew T v0 v1
  rwa [show (w.alloc o).drew.heap.size = w.heap.size + 1 by simp [World.drew]] at h
theorem S2.new4 (w : World) (T : TypeId) (v0 v1 : Value) : S2 (w.drew.alloc (.cells #[v0, v1] T)) w.heap.size v0 v1 := S2.new w.drew T v0 v1
theorem S2.below {w w' : World} {R : Nat} {v0 v1 : Value} (h : S2 w R v0 v1) (hb : Below w.heap.size w w') : S2 w' R v0 v1 := by
  obtain ⟨⟨a, a'⟩, b, b'⟩ := h
  exact ⟨⟨cb hb (cell_ltL a) a, fb hb (cell_ltL a) a'⟩, cb hb (cell_ltL b) b, fb hb (cell_ltL b) b'⟩
theorem far_in {k : IntKind} {w : World} {B : Nat} {u : Option Addr} {P : List Int} (hf : FarRow B u P) (hr : RowAt k w u P) : ∀ b o, u = some ⟨b, o, none⟩ → P ≠ [] → B ≤ b ∧ b < w.heap.size := by
  rintro b o rfl hne
  rcases hf with hf | ⟨b', o', e, l⟩
  · exact absurd hf hne
  · simp only [Option.some.injEq, Addr.mk.injEq, and_true] at e
    obtain ⟨rfl, rfl⟩ := e
    exact ⟨l, cell_ltL (hr.at (List.length_pos_iff.2 hne))⟩
/-- Four cells of two blocks are written; all others stay. -/
def C4 (W w4 : World) (RA RB : Nat) (a b c d : Value) : Prop :=
  W.cell? ⟨RA, 0, none⟩ = some a ∧ W.cell? ⟨RA, 1, none⟩ = some b ∧ W.cell? ⟨RB, 0, none⟩ = some c ∧ W.cell? ⟨RB, 1, none⟩ = some d ∧ ∀ k o v, k < w4.heap.size → k ≠ RA → k ≠ RB → w4.cell? ⟨k, o, none⟩ = some v → W.cell? ⟨k, o, none⟩ = some v
theorem c4_aa (w4 : World) (T : TypeId) (a b c d : Value) : C4 ((w4.alloc (.cells #[a, b] T)).alloc (.cells #[c, d] T)) w4 w4.heap.size (w4.heap.size + 1) a b c d := by
  refine ⟨by simp, by simp, by simp, by simp, fun k o v hk _ _ h => ?_⟩
  exact cb (ba (below1 _ _) _) hk h
theorem C4.swap {W w4 : World} {RA RB : Nat} {a b c d : Value} (h : C4 W w4 RB RA c d a b) : C4 W w4 RA RB a b c d :=
  ⟨h.2.2.1, h.2.2.2.1, h.1, h.2.1, fun k o v hk n1 n2 q => h.2.2.2.2 k o v hk n2 n1 q⟩
theorem c4_sets {X w4 : World} {RA RB : Nat} {xa ya xb yb a b c d : Value} (hX : Below w4.heap.size w4 X) (sa : S2 X RA xa ya) (sb : S2 X RB xb yb) (ne : RA ≠ RB) :
    C4 ((((X.setCell ⟨RA, 0, none⟩ a).setCell ⟨RA, 1, none⟩ b).setCell ⟨RB, 0, none⟩ c).setCell ⟨RB, 1, none⟩ d) w4 RA RB a b c d := by
  obtain ⟨⟨a0, _⟩, a1, _⟩ := sa
  obtain ⟨⟨b0, _⟩, b1, _⟩ := sb
  refine ⟨?_, ?_, ?_, ?_, fun k o v hk n1 n2 h => ?_⟩
  · rw [set_apart (Or.inl ne.symm), set_apart (Or.inl ne.symm), set_apart (Or.inr (by decide))]
    exact World.cell?_setCell_same' _ _ _ (by rw [a0]; rfl)
  · rw [set_apart (Or.inl ne.symm), set_apart (Or.inl ne.symm)]
    exact World.cell?_setCell_same' _ _ _ (by rw [set_apart (Or.inr (by decide)), a1]; rfl)
  · rw [set_apart (Or.inr (by decide))]
    exact World.cell?_setCell_same' _ _ _ (by rw [set_apart (Or.inl ne), set_apart (Or.inl ne), b0]; rfl)
  · exact World.cell?_setCell_same' _ _ _ (by rw [set_apart (Or.inr (by decide)), set_apart (Or.inl ne), set_apart (Or.inl ne), b1]; rfl)
  · rw [set_apart (Or.inl n2.symm), set_apart (Or.inl n2.symm), set_apart (Or.inl n1.symm), set_apart (Or.inl n1.symm)]
    exact cb hX hk h
theorem c4_as {w4 : World} {T : TypeId} {RB : Nat} {xb yb a b c d : Value} (sb : S2 (w4.alloc (.cells #[a, b] T)) RB xb yb) (ne : w4.heap.size ≠ RB) :
    C4 (((w4.alloc (.cells #[a, b] T)).setCell ⟨RB, 0, none⟩ c).setCell ⟨RB, 1, none⟩ d) w4 w4.heap.size RB a b c d := by
  obtain ⟨⟨b0, _⟩, b1, _⟩ := sb
  refine ⟨?_, ?_, ?_, ?_, fun k o v hk n1 n2 h => ?_⟩
  · rw [set_apart (Or.inl ne.symm), set_apart (Or.inl ne.symm)]; simp
  · rw [set_apart (Or.inl ne.symm), set_apart (Or.inl ne.symm)]; simp
  · rw [set_apart (Or.inr (by decide))]
    exact World.cell?_setCell_same' _ _ _ (by rw [b0]; rfl)
  · exact World.cell?_setCell_same' _ _ _ (by rw [set_apart (Or.inr (by decide)), b1]; rfl)
  · rw [set_apart (Or.inl n2.symm), set_apart (Or.inl n2.symm)]
    exact cb (below1 _ _) hk h
theorem row_c4 {W w4 : World} {RA RB : Nat} {a b c d : Value} (h : C4 W w4 RA RB a b c d) {u : Option Addr} {P : List Int} (ru : RowAt .i64 w4 u P) (nu : ∀ b o, u = some ⟨b, o, none⟩ → P ≠ [] → b ≠ RA ∧ b ≠ RB) : RowAt .i64 W u P := by
  rcases ru with e | ⟨b, o, rfl, hc⟩
  · exact .inl e
  · by_cases hne : P = []
    · exact .inl hne
    · obtain ⟨n1, n2⟩ := nu b o rfl hne
      exact .inr ⟨b, o, rfl, fun j hj => h.2.2.2.2 _ _ _ (cell_ltL (hc j hj)) n1 n2 (hc j hj)⟩
/-- Both lines lie there. -/
theorem both_fin {W w3 w4 : World} {RA RB : Nat} {p f1 n1 f2 n2 : Int} {ts1 ts2 P Q P2 Q2 : List Int} {N N2 : Nat} {u v u2 v2 : Option Addr} {cu cv cu2 cv2 : Nat} {B3 C3 B4 C4' : Nat} (h : C4 W w4 RA RB (.slice u N cu) (.slice v N cv) (.slice u2 N2 cu2) (.slice v2 N2 cv2))
    (G3 : P.length = N ∧ Q.length = N ∧ RowAt .i64 w3 u P ∧ RowAt .i64 w3 v Q ∧ Gath p f1 n1 ts1 P Q) (K : Below w3.heap.size w3 w4) (G4 : P2.length = N2 ∧ Q2.length = N2 ∧ RowAt .i64 w4 u2 P2 ∧ RowAt .i64 w4 v2 Q2 ∧ Gath p f2 n2 ts2 P2 Q2)
    (fu : ∀ b o, u = some ⟨b, o, none⟩ → P ≠ [] → B3 ≤ b ∧ b < w3.heap.size) (fv : ∀ b o, v = some ⟨b, o, none⟩ → Q ≠ [] → C3 ≤ b ∧ b < w3.heap.size) (fu2 : ∀ b o, u2 = some ⟨b, o, none⟩ → P2 ≠ [] → B4 ≤ b ∧ b < w4.heap.size) (fv2 : ∀ b o, v2 = some ⟨b, o, none⟩ → Q2 ≠ [] → C4' ≤ b ∧ b < w4.heap.size)
    (d1 : RA < B3 ∧ RA < C3 ∨ w3.heap.size ≤ RA) (d2 : RB < B3 ∧ RB < C3 ∨ w3.heap.size ≤ RB) (d3 : RA < B4 ∧ RA < C4' ∨ w4.heap.size ≤ RA) (d4 : RB < B4 ∧ RB < C4' ∨ w4.heap.size ≤ RB) : LineAt W RA p f1 n1 ts1 ∧ LineAt W RB p f2 n2 ts2 := by
  obtain ⟨a1, a2, a3, a4, a5⟩ := G3
  obtain ⟨b1, b2, b3, b4, b5⟩ := G4
  refine ⟨⟨P, Q, N, u, v, cu, cv, h.1, h.2.1, a1, a2, row_c4 h (a3.below K) fun b o e hne => ?_, row_c4 h (a4.below K) fun b o e hne => ?_, a5⟩, ⟨P2, Q2, N2, u2, v2, cu2, cv2, h.2.2.1, h.2.2.2.1, b1, b2, row_c4 h b3 fun b o e hne => ?_, row_c4 h b4 fun b o e hne => ?_, b5⟩⟩
  · have := fu b o e hne; omega
  · have := fv b o e hne; omega
  · have := fu2 b o e hne; omega
  · have := fv2 b o e hne; omega
theorem sum_bad {w : World} {g h : Nat} {I : Im} {x y : Value} {S : Stg} (hk : OpK w) (H : ImgAt w g h I) (tx : Tab w x S.fx S.lx) (ty : Tab w y S.fy S.ly) (hz : suitsF I S = false) (i j c : Int) :
    Calls Tryz.prog 25 #[.pointer (some ⟨g, 0, none⟩), .agg #[x, y, .int .i64 S.sb], .int .i64 i, .int .i64 j, .int .i64 c] w fun e w' => e = .returned (.int .i64 0) ∧ Below w.heap.size w w' := by
  have CS := fun w' (b : Below w.heap.size w w') => dir_suits (opk_below _ _ hk b) (H.below b) (tx.below b) (ty.below b)
  rw [hz] at CS
  clear hz hk H
  obtain ⟨ax, rfl⟩ := tx.ptr
  obtain ⟨ay, rfl⟩ := ty.ptr
  clear tx ty
  go_enter Tryz.func25, Tryz.ntmps25
  go_wp2_with (go_at_call 23; (with_reducible refine (CS _ (below1 _ _)).mono ?_); rintro e w1 ⟨rfl, b1⟩)
  go_ret
  exact ⟨rfl, bt (below1 _ _) b1⟩
set_option maxHeartbeats 16000000 in
set_option maxRecDepth 100000 in
theorem sum_main {w : World} {g h : Nat} {I : Im} {x y : Value} {S : Stg} (hk : OpK w) (H : ImgAt w g h I) (tx : Tab w x S.fx S.lx) (ty : Tab w y S.fy S.ly) (hs : SmallS S) (hz : suitsF I S = true) (i j c : Int) (i0 : -9223372036854775808 ≤ i) (i1 : i ≤ 9223372036854775807) (j0 : -9223372036854775808 ≤ j) (j1 : j ≤ 9223372036854775807) :
    Calls Tryz.prog 25 #[.pointer (some ⟨g, 0, none⟩), .agg #[x, y, .int .i64 S.sb], .int .i64 i, .int .i64 j, .int .i64 c] w fun e w' => e = .returned (.int .i64 (sumI I S i j c)) ∧ Below w.heap.size w w' := by
  have CS := fun w' (b : Below w.heap.size w w') => dir_suits (opk_below _ _ hk b) (H.below b) (tx.below b) (ty.below b)
  rw [hz] at CS
  have hs' := hz
  unfold suitsF at hs'
  simp only [Bool.and_eq_true, decide_eq_true_eq] at hs'
  obtain ⟨⟨⟨efx, efy⟩, s0⟩, s1⟩ := hs'
  have CCL := fun w' (b : Below w.heap.size w w') => column_any (yv := y) (tx.below b) hs.1 s0 s1 i i0 i1
  have CRW := fun w' (b : Below w.heap.size w w') => row_any (xv := x) (ty.below b) hs.2.1 s0 s1 j j0 j1
  rw [efx] at CCL
  rw [efy] at CRW
  have CAT := hide (fun w' (b : Below w.heap.size w w') (p q : Int) => img_at (H.below b) p q c)
  have HIN := hide (sumI_in H.ok hs i j c)
  have H16 := hide (fun p q => im16 H.ok p q c)
  obtain ⟨ax, rfl⟩ := tx.ptr
  obtain ⟨ay, rfl⟩ := ty.ptr
  have T0 := hide (S3.new w 44 (.pointer (some ax)) (.pointer (some ay)) (.int .i64 S.sb))
  have HSG := hide (fun (px wx py wy : List Int) (gx : Gath S.sb (lnI S.lx i).1 I.iw (lnI S.lx i).2 px wx) (gy : Gath S.sb (lnI S.ly j).1 I.ih (lnI S.ly j).2 py wy) => sum_gath (c := c) gx gy)
  clear hs hz efx efy s0 s1 tx ty H hk i0 i1 j0 j1
  obtain ⟨sb, hsb⟩ : ∃ sb, S.sb = sb := ⟨_, rfl⟩
  rw [hsb] at CS T0 CCL CRW HSG ⊢
  clear hsb
  generalize (lnI S.lx i).1 = f1 at *
  generalize (lnI S.lx i).2 = ts1 at *
  generalize (lnI S.ly j).1 = f2 at *
  generalize (lnI S.ly j).2 = ts2 at *
  generalize sumI I S i j c = RES at *
  generalize I.iw = iw at *
  generalize I.ih = ih at *
  go_enter Tryz.func25, Tryz.ntmps25
  go_wp2_with (go_at_call 23; (with_reducible refine (CS _ (below1 _ _)).mono ?_); rintro e w1 ⟨rfl, b1⟩; have T1 := hide (T0.out.below b1); have B1 := hide (bt (below1 _ _) b1); clear b1)
  obtain ⟨⟨t0, _⟩, ⟨t1, _⟩, ⟨t2, _⟩⟩ := T1.out
  clear CS T0
  go_cut [11, 12] (fun a b wx => (∃ RA RB, a = .pointer (some ⟨RA, 0, none⟩) ∧ b = .pointer (some ⟨RB, 0, none⟩) ∧ LineAt wx RA sb f1 iw ts1 ∧ LineAt wx RB sb f2 ih ts2) ∧ Below w1.heap.size w1 wx)
  case first =>
    have n1 : w1.heap.size ≠ w.heap.size := fun e => by have := cell_ltL t0; omega
    have n2 : w1.heap.size + 1 ≠ w.heap.size := fun e => by have := cell_ltL t0; omega
    go_region_held3 (fun w' => w'.cell? ⟨w.heap.size, 0, none⟩ = some (.pointer (some ax)) ∧ w'.cell? ⟨w.heap.size, 1, none⟩ = some (.pointer (some ay)) ∧ w'.cell? ⟨w.heap.size, 2, none⟩ = some (.int .i64 sb)) (first | with_reducible assumption | (with_reducible exact ⟨t0, t1, t2⟩) | (with_reducible exact ⟨x0, x1, x2⟩) | (with_reducible exact ⟨y0, y1, y2⟩) | (simp only [set_apart (Or.inl n1), set_apart (Or.inl n2), set_apart (Or.inl n3), set_apart (Or.inl n4), set_apart (Or.inl n5), y0, y1, y2, and_self]; done) | go_keep)
      (first
        | (go_at_call 56; (with_reducible refine (CCL _ (bt B1.out (by repeat (first | exact Below.refl _ _ | (with_reducible refine bdN ?_ _) | with_reducible refine bd ?_ | with_reducible refine ba ?_ _)))).mono ?_); rintro e w3 ⟨⟨P, W, N, u, v, cu, cv, rfl, hP, hW, ru, rv, fu, fv, hg⟩, b3⟩; have K3 := hide (bt (show Below w1.heap.size w1 _ by repeat (first | exact Below.refl _ _ | (with_reducible refine bdN ?_ _) | with_reducible refine bd ?_ | with_reducible refine ba ?_ _)) b3); obtain ⟨⟨x0, _⟩, ⟨x1, _⟩, ⟨x2, _⟩⟩ := T1.out.below K3.out; (try simp at fu fv); have FU := hide (far_in fu ru); have FV := hide (far_in fv rv); have G3 := hide (And.intro hP (And.intro hW (And.intro ru (And.intro rv hg)))); (first | (have HPA := hide ((((S2.new w1 _ _ _).below (below1 _ _)).below (bd (Below.refl _ _))).below b3); have HPB := hide (((S2.new2 w1 _ _ _ _).below (bd (Below.refl _ _))).below b3)) | (have HPA := hide ((((S2.new w1 _ _ _).below (bd (Below.refl _ _))).below (below1 _ _)).below b3); have HPB := hide ((S2.new3 w1 _ _ _ _).below b3)) | (have HPA := hide (((S2.new w1 _ _ _).below (below1 _ _)).below b3); have HPB := hide ((S2.new2 w1 _ _ _ _).below b3)) | (have HPB := hide (((S2.new w1 _ _ _).below (bd (Below.refl _ _))).below b3)) | (have HPB := hide ((S2.new4 w1 _ _ _).below b3)) | (have HPB := hide ((S2.new w1 _ _ _).below b3)) | skip); have n3 : w3.heap.size ≠ w.heap.size := (fun e => by have := cell_ltL x0; omega); have n4 : w3.heap.size + 1 ≠ w.heap.size := (fun e => by have := cell_ltL x0; omega); clear hP hW ru rv hg b3 fu fv)
        | (go_at_call 49; (with_reducible refine (CRW _ (bt B1.out (bt K3.out (by repeat (first | exact Below.refl _ _ | (with_reducible refine bdN ?_ _) | with_reducible refine bd ?_ | with_reducible refine ba ?_ _))))).mono ?_); rintro e w4 ⟨⟨P2, W2, N2, u2, v2, cu2, cv2, rfl, hP, hW, ru, rv, fu, fv, hg⟩, b4⟩; have K34 := hide (bt (show Below w3.heap.size w3 _ by repeat (first | exact Below.refl _ _ | (with_reducible refine bdN ?_ _) | with_reducible refine bd ?_ | with_reducible refine ba ?_ _)) b4); have K4 := hide (bt K3.out K34.out); obtain ⟨⟨y0, _⟩, ⟨y1, _⟩, ⟨y2, _⟩⟩ := T1.out.below K4.out; (try simp at fu fv); have FU2 := hide (far_in fu ru); have FV2 := hide (far_in fv rv); have G4 := hide (And.intro hP (And.intro hW (And.intro ru (And.intro rv hg)))); (first | (have PA := HPA.out.below K34.out; have ea1 := Nat.ne_of_lt (cell_ltL HPA.out.1.1); have ea2 := (Nat.ne_of_lt (cell_ltL HPA.out.1.1)).symm; have ea3 := Nat.ne_of_lt (cell_ltL PA.1.1); have ea4 := (Nat.ne_of_lt (cell_ltL PA.1.1)).symm; have PC := PA.below (below1 w4 (.cells #[.slice none 0 0, .slice none 0 0] 92)); have PG := PA.below (below1 w4 (.cells #[.slice u N cu, .slice v N cv] 92)); obtain ⟨⟨p0, p1⟩, p2, p3⟩ := PA; obtain ⟨⟨p4, p5⟩, p6, p7⟩ := PC; obtain ⟨⟨p8, p9⟩, pa, pb⟩ := PG) | skip); (first | (have PB := HPB.out.below K34.out; have eb1 := Nat.ne_of_lt (cell_ltL HPB.out.1.1); have eb2 := (Nat.ne_of_lt (cell_ltL HPB.out.1.1)).symm; have eb3 := Nat.ne_of_lt (cell_ltL PB.1.1); have eb4 := (Nat.ne_of_lt (cell_ltL PB.1.1)).symm; have PD := PB.below (below1 w4 (.cells #[.slice none 0 0, .slice none 0 0] 92)); have PG := PB.below (below1 w4 (.cells #[.slice u N cu, .slice v N cv] 92)); obtain ⟨⟨q0, q1⟩, q2, q3⟩ := PB; obtain ⟨⟨q4, q5⟩, q6, q7⟩ := PD; obtain ⟨⟨q8, q9⟩, qa, qb⟩ := PG) | skip); (first | (have PA := ((S2.new _ _ _ _).below (below1 _ _)).below b4; have PB := (S2.new2 _ _ _ _ _).below b4; have PC := PA.below (below1 w4 (.cells #[.slice none 0 0, .slice none 0 0] 92)); have PD := PB.below (below1 w4 (.cells #[.slice none 0 0, .slice none 0 0] 92)); obtain ⟨⟨r0, r1⟩, r2, r3⟩ := PA; obtain ⟨⟨s0, s1⟩, s2, s3⟩ := PB; obtain ⟨⟨r4, r5⟩, r6, r7⟩ := PC; obtain ⟨⟨s4, s5⟩, s6, s7⟩ := PD) | (have PB := (S2.new _ _ _ _).below b4; have PD := PB.below (below1 w4 (.cells #[.slice none 0 0, .slice none 0 0] 92)); have PG := PB.below (below1 w4 (.cells #[.slice u N cu, .slice v N cv] 92)); obtain ⟨⟨s0, s1⟩, s2, s3⟩ := PB; obtain ⟨⟨s8, s9⟩, sa, sb'⟩ := PG; have ed1 := Nat.ne_of_lt (cell_ltL s0); have ed2 := (Nat.ne_of_lt (cell_ltL s0)).symm; obtain ⟨⟨s4, s5⟩, s6, s7⟩ := PD) | skip); have Z1 := (S2.new w4 92 (.slice none 0 0) (.slice none 0 0)).below (below1 _ (.cells #[.slice none 0 0, .slice none 0 0] 92)); obtain ⟨⟨z0, z1⟩, z2, z3⟩ := Z1; have n5 : w4.heap.size ≠ w.heap.size := (fun e => by have := cell_ltL y0; omega); have n6 : w4.heap.size + 1 ≠ w.heap.size := (fun e => by have := cell_ltL y0; omega); clear hP hW ru rv hg b4 fu fv))
    all_goals
      go_wp2_with fail
      go_meet
      have h34 := K34.out.size
      have h13 := K3.out.size
      (first | (have el1 := cell_ltL HPB.out.1.1) | skip)
      (first | (have el2 := cell_ltL HPA.out.1.1) | skip)
      refine ⟨⟨_, _, rfl, rfl, both_fin (w4 := w4) (cu := cu) (cv := cv) (cu2 := cu2) (cv2 := cv2) ?_ G3.out K34.out G4.out FU.out FV.out FU2.out FV2.out ?_ ?_ ?_ ?_⟩, ?_⟩
      · first
          | with_reducible exact c4_aa w4 _ _ _ _ _
          | with_reducible exact C4.swap (c4_aa w4 _ _ _ _ _)
          | (with_reducible refine c4_as (xb := .slice none 0 0) (yb := .slice none 0 0) (S2.mk ?_ ?_ ?_ ?_) ?_ <;> with_reducible assumption)
          | (with_reducible refine c4_sets (xa := .slice none 0 0) (ya := .slice none 0 0) (xb := .slice none 0 0) (yb := .slice none 0 0) (below1 _ _) (S2.mk ?_ ?_ ?_ ?_) (S2.new _ _ _ _) ?_ <;> with_reducible assumption)
          | (with_reducible refine c4_sets (xa := .slice none 0 0) (ya := .slice none 0 0) (xb := .slice none 0 0) (yb := .slice none 0 0) (Below.refl _ _) (S2.mk ?_ ?_ ?_ ?_) (S2.mk ?_ ?_ ?_ ?_) ?_ <;> first | with_reducible assumption | omega)
      · omega
      · omega
      · omega
      · omega
      · repeat (first | with_reducible exact K4.out | with_reducible refine ba ?_ _ | with_reducible refine bs ?_ (by omega) _)
  case rest =>
    obtain ⟨⟨RA, RB, rfl, rfl, hla, hlb⟩, hb⟩ := hcut
    obtain ⟨P, W, N, u, v, cu, cv, a0, a1, hP, hW, ru, rv, gx⟩ := hla
    obtain ⟨P2, W2, N2, u2, v2, cu2, cv2, e0, e1, hP2, hW2, ru2, rv2, gy⟩ := hlb
    have HB := hide hb
    have HRU := hide ru
    have HRV := hide rv
    have HRU2 := hide ru2
    have HRV2 := hide rv2
    have HP := hide hP
    have HW := hide hW
    have HP2 := hide hP2
    have HW2 := hide hW2
    have hl1 := cell_ltL a0
    have hl2 := cell_ltL e0
    obtain ⟨F2, hF2⟩ : ∃ F2 : Nat → Nat → Int, F2 = fun k q => imAt I (P.getD k 0) (P2.getD q 0) c := ⟨_, rfl⟩
    obtain ⟨F, hF⟩ : ∃ F : Nat → Int, F = fun k => tapS W2 (F2 k) N2 := ⟨_, rfl⟩
    have HF2 := hide (fun k q => show F2 k q = imAt I (P.getD k 0) (P2.getD q 0) c by rw [hF2])
    have HFK := hide (fun k => show F k = tapS W2 (F2 k) N2 by rw [hF])
    have h16 : ∀ k q, 0 ≤ F2 k q ∧ F2 k q ≤ 65535 := fun k q => by rw [hF2]; exact H16.out _ _
    have HE := hide h16
    have HFB := hide (fun k => show -549747425280 ≤ F k ∧ F k ≤ 549747425280 from by rw [hF]; exact small_row gy.small (by rw [hW2]; exact Nat.le_refl _) (fun q _ => h16 k q))
    have HFQ := hide (fun k q (hq : q ≤ N2) => show -549747425280 ≤ tapS W2 (F2 k) q ∧ tapS W2 (F2 k) q ≤ 549747425280 from small_row gy.small (by rw [hW2]; exact hq) (fun q _ => h16 k q))
    have HRES := hide (show tapS W F N = RES from by
      have := HSG.out P W P2 W2 gx gy
      rw [hW, hW2] at this
      rw [← this, hF, hF2])
    have HWB := hide (fun k (hk : k < N) => show -8388608 ≤ W.getD k 0 ∧ W.getD k 0 ≤ 8388608 from by
      have a := absS_each W (j := k) (n := W.length) (by omega)
      have sm := gx.small
      unfold SmallT at sm
      omega)
    have HWB2 := hide (fun k (hk : k < N2) => show -8388608 ≤ W2.getD k 0 ∧ W2.getD k 0 ≤ 8388608 from by
      have a := absS_each W2 (j := k) (n := W2.length) (by omega)
      have sm := gy.small
      unfold SmallT at sm
      omega)
    have N1 : N ≤ 1048576 := by have := gx.most; omega
    have N3 : N2 ≤ 1048576 := by have := gy.most; omega
    obtain ⟨W5, hW5⟩ : ∃ W5, wc.alloc (.cells #[.int .u64 0, .int .u64 0] 105) = W5 := ⟨_, rfl⟩
    obtain ⟨RT, hRT⟩ : ∃ RT, wc.heap.size = RT := ⟨_, rfl⟩
    have B5 := hide (show Below wc.heap.size wc W5 by rw [← hW5]; exact below1 _ _)
    have T5 := hide (show TotAt W5 RT 0 by rw [← hW5, ← hRT]; exact TotAt.new wc 105)
    have HRT := hide hRT
    rw [hRT] at hl1 hl2
    have a0 := cb B5.out (by omega) a0
    have a1 := cb B5.out (by omega) a1
    have e0 := cb B5.out (by omega) e0
    have e1 := cb B5.out (by omega) e1
    have LA := hide (And.intro a0 a1)
    have LB := hide (And.intro e0 e1)
    have HLA := hide (show (some RA : Option Nat) ≠ some RT from fun e => by have := Option.some.inj e; omega)
    have HLB := hide (show (some RB : Option Nat) ≠ some RT from fun e => by have := Option.some.inj e; omega)
    clear hb CCL CRW t0 t1 t2 ru rv ru2 rv2 hP hW hP2 hW2 gx gy hF hF2 h16 HSG hl1 hl2 H16
    go_upto_region 5 with fail
    clear hW5
    go_wp2
    go_loopg [32] N (fun r ii wr => ∃ k : Nat, k + r = N ∧ ii = .int .i64 (k : Int) ∧ TotAt wr RT (tapS W F k) ∧ W5.grownBy wr (some RT))
    case atStart => exact ⟨0, by omega, rfl, T5.out, grown_refl _ _⟩
    case round =>
      obtain ⟨k, hk, rfl, ht, hg⟩ := hrel
      have HK := hide hk
      have HT := hide ht
      have HG := hide hg
      clear hk ht hg a0 a1 e0 e1
      obtain ⟨G, hG⟩ : ∃ G, G = gk := ⟨_, rfl⟩
      subst hG
      have HBW := hide (show Below w.heap.size w wr from (bt (bt B1.out HB.out) B5.out).grown HG.out ((bt (bt B1.out HB.out) B5.out).size) (fun j hj => by have := Option.some.inj hj; have := HRT.out; have := (bt B1.out HB.out).size; omega))
      by_cases hlt : k < N
      · obtain ⟨ub, uo, rfl, c1⟩ := HRU.out.get (show k < P.length by rw [HP.out]; exact hlt)
        obtain ⟨vb, vo, rfl, c2⟩ := HRV.out.get (show k < W.length by rw [HW.out]; exact hlt)
        have l1 := cell_ltL c1
        have l2 := cell_ltL c2
        have hrt := HRT.out
        have c1 := cg HG.out (fun e => by have := Option.some.inj e; omega) (cb B5.out l1 c1)
        have c2 := cg HG.out (fun e => by have := Option.some.inj e; omega) (cb B5.out l2 c2)
        have a1 := cg HG.out HLA.out LA.out.2
        have e0 := cg HG.out HLB.out LB.out.1
        have HA1 := hide a1
        have HC2 := hide c2
        obtain ⟨p, hp⟩ : ∃ p, P.getD k 0 = p := ⟨_, rfl⟩
        rw [hp] at c1
        have HPP := hide hp
        have CATK := fun q n => CAT.out (wr.drewN n) (bdN HBW.out n) p q
        have fb1 := HFB.out k
        have wb1 := HWB.out k hlt
        obtain ⟨A1, hA1⟩ : ∃ A1, W.getD k 0 = A1 := ⟨_, rfl⟩
        rw [hA1] at HC2 wb1
        have HA1v := hide hA1
        have HWR := hide (Drew.refl wr)
        clear hp hA1 a1 c2 l1 l2 hrt
        obtain ⟨WR, hWR⟩ : ∃ WR, WR = wr := ⟨_, rfl⟩
        go_wp2
        go_loopg [16, 40] N2 (fun r s ii w8 => ∃ q : Nat, q + r = N2 ∧ ii = .int .i64 (q : Int) ∧ s = .int .i64 (tapS W2 (F2 k) q) ∧ Drew WR w8)
        case atStart => exact ⟨0, by omega, rfl, rfl, by rw [hWR]; exact Drew.refl _⟩
        case round =>
          obtain ⟨q, hq, rfl, rfl, hd⟩ := hrel
          have HQ := hide hq
          have HD := hide hd
          clear hq hd
          have HBC := hide (show Below w.heap.size w wr from bt HBW.out (by rw [← hWR]; exact HD.out.below))
          by_cases hlt2 : q < N2
          · obtain ⟨u2b, u2o, rfl, c3⟩ := HRU2.out.get (show q < P2.length by rw [HP2.out]; exact hlt2)
            obtain ⟨v2b, v2o, rfl, c4⟩ := HRV2.out.get (show q < W2.length by rw [HW2.out]; exact hlt2)
            have l3 := cell_ltL c3
            have l4 := cell_ltL c4
            have hrt := HRT.out
            have GW : W5.grownBy wr (some RT) := by
              have h1 := HG.out
              rw [← hWR] at h1
              exact h1.trans (HD.out.grown _)
            have c3 := cg GW (fun e => by have := Option.some.inj e; omega) (cb B5.out l3 c3)
            have c4 := cg GW (fun e => by have := Option.some.inj e; omega) (cb B5.out l4 c4)
            have e1 := cg GW HLB.out LB.out.2
            obtain ⟨p2, hp2⟩ : ∃ p2, P2.getD q 0 = p2 := ⟨_, rfl⟩
            rw [hp2] at c3
            have fe : F2 k q = imAt I p p2 c := by rw [HF2.out, HPP.out, hp2]
            have CAQ := fun n => CAT.out (wr.drewN n) (bdN HBC.out n) p p2
            rw [← fe] at CAQ
            have vb := HE.out k q
            have wb2 := HWB2.out q hlt2
            have sb1 := HFQ.out k q (by omega)
            have sb2 := HFQ.out k (q + 1) (by omega)
            have st : tapS W2 (F2 k) (q + 1) = tapS W2 (F2 k) q + W2.getD q 0 * F2 k q := rfl
            rw [st] at sb2
            obtain ⟨A, hA⟩ : ∃ A, W2.getD q 0 = A := ⟨_, rfl⟩
            obtain ⟨V, hV⟩ : ∃ V, F2 k q = V := ⟨_, rfl⟩
            obtain ⟨X, hX⟩ : ∃ X, tapS W2 (F2 k) q = X := ⟨_, rfl⟩
            rw [hV] at CAQ vb
            rw [hA] at c4 wb2
            rw [hX] at sb1
            rw [hA, hV, hX] at st sb2
            simp only [hX]
            have pr := tap_mul15 (t := A) (f := V) (M := 65535) (by omega) vb.2
            have pa : absI A * 65535 ≤ 8388608 * 65535 := Int.mul_le_mul_of_nonneg_right (by unfold absI; split <;> omega) (by decide)
            obtain ⟨PR, hPR⟩ : ∃ PR, A * V = PR := ⟨_, rfl⟩
            rw [hPR] at st sb2 pr
            have E0 : IntKind.i64.wrap V = V := IntWalk.i64_in _ (by omega)
            have E1 : IntKind.i64.wrap (A * V) = PR := by rw [hPR]; exact IntWalk.i64_in _ (by omega)
            have E2 : IntKind.i64.wrap (X + PR) = X + PR := IntWalk.i64_in _ (by omega)
            have E3 : wrap64 V = V := by unfold wrap64; omega
            have E4 : wrap64 (A * V) = PR := by rw [hPR]; unfold wrap64; omega
            have E5 : wrap64 (X + PR) = X + PR := by unfold wrap64; omega
            have HST := hide st
            clear st sb1 sb2 pr pa hPR hX hV hA fe hp2 l3 l4 hrt vb wb2 GW
            go_wp2
            go_quiet ((go_at_call 37; (with_reducible exact calmD (CAQ _))))
            go_wp2
            go_roundg (gk - 1)
            case measure => have := HQ.out; omega
            case rel => exact ⟨q + 1, by have := HQ.out; omega, by go_num, by rw [HST.out], HD.out.more _⟩
          · obtain rfl : N2 = q := by have := HQ.out; omega
            clear hlt2
            rw [← HFK.out]
            have BD := HD.out.below
            have x1 := cb BD (cell_ltL (by rw [hWR]; exact HA1.out)) (by rw [hWR]; exact HA1.out)
            have x2 := cb BD (cell_ltL (by rw [hWR]; exact HC2.out)) (by rw [hWR]; exact HC2.out)
            have TD := hide ((show TotAt WR RT (tapS W F k) by rw [hWR]; exact HT.out).below BD)
            have CAD := tot_add A1 (F k) (by omega) (by omega) (by omega) (by omega) RT (tapS W F k) wr TD.out
            have hst : tapS W F (k + 1) = tapS W F k + A1 * F k := by rw [← HA1v.out]; rfl
            have HST := hide hst
            have HGD := hide (show W5.grownBy wr (some RT) from by
              have h1 := HG.out
              rw [← hWR] at h1
              exact h1.trans (HD.out.grown _))
            clear BD hst
            go_wp2_with (go_at_call 57; (with_reducible refine CAD.mono ?_); rintro e w9 ⟨rfl, h9, g9⟩; have H9 := hide h9; have G9 := hide g9; clear h9 g9)
            go_roundg (G - 1)
            case measure => have := HK.out; omega
            case rel => exact ⟨k + 1, by have := HK.out; omega, by go_num, by rw [HST.out]; exact H9.out, HGD.out.trans G9.out⟩
      · obtain rfl : N = k := by have := HK.out; omega
        have CH := tot_held RT (tapS W F N) wr HT.out (by rw [HRES.out]; have := HIN.out; omega) (by rw [HRES.out]; have := HIN.out; omega)
        rw [HRES.out] at CH
        clear hlt
        go_wp2_with (go_at_call 58; (with_reducible refine CH.mono ?_); rintro e w9 ⟨rfl, rfl⟩)
        go_ret
        exact ⟨rfl, HBW.out⟩
end Go.Proofs.YtaafhjngnjjcmaaGreatDoor
