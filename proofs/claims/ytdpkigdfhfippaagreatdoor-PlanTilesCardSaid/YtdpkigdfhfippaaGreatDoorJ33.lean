/- Parts, joined. -/
import Derived.Test.YtdpkigdfhfippaaGreatDoorJ31
import Derived.Test.YtdpkigdfhfippaaGreatDoorJ32
import Derived.Deep.DeepCutAuto
/- Plans: the program's own: a tile. Written by gen_XS14M.py. -/
namespace Go.Proofs.YtdpkigdfhfippaaGreatDoor
open Go.RowKit

theorem P10.put0 {w : World} {b : Nat} {t : Til} (h : P10 w b t) (v : Int) : P10 (w.setCell ⟨b, 0, none⟩ (.int .i64 v)) b { t with tn := v } := by
  obtain ⟨h0, h1, h2, h3, h4, h5, h6, h7, h8, h9⟩ := h
  exact ⟨World.cell?_setCell_same' _ _ _ (by rw [h0]; rfl), (set_apart (Or.inr (by decide))).trans h1, (set_apart (Or.inr (by decide))).trans h2, (set_apart (Or.inr (by decide))).trans h3, (set_apart (Or.inr (by decide))).trans h4, (set_apart (Or.inr (by decide))).trans h5, (set_apart (Or.inr (by decide))).trans h6, (set_apart (Or.inr (by decide))).trans h7, (set_apart (Or.inr (by decide))).trans h8, (set_apart (Or.inr (by decide))).trans h9⟩
theorem P10.put1 {w : World} {b : Nat} {t : Til} (h : P10 w b t) (v : Int) : P10 (w.setCell ⟨b, 1, none⟩ (.int .i64 v)) b { t with tx := v } := by
  obtain ⟨h0, h1, h2, h3, h4, h5, h6, h7, h8, h9⟩ := h
  exact ⟨(set_apart (Or.inr (by decide))).trans h0, World.cell?_setCell_same' _ _ _ (by rw [h1]; rfl), (set_apart (Or.inr (by decide))).trans h2, (set_apart (Or.inr (by decide))).trans h3, (set_apart (Or.inr (by decide))).trans h4, (set_apart (Or.inr (by decide))).trans h5, (set_apart (Or.inr (by decide))).trans h6, (set_apart (Or.inr (by decide))).trans h7, (set_apart (Or.inr (by decide))).trans h8, (set_apart (Or.inr (by decide))).trans h9⟩
theorem P10.put2 {w : World} {b : Nat} {t : Til} (h : P10 w b t) (v : Int) : P10 (w.setCell ⟨b, 2, none⟩ (.int .i64 v)) b { t with ty := v } := by
  obtain ⟨h0, h1, h2, h3, h4, h5, h6, h7, h8, h9⟩ := h
  exact ⟨(set_apart (Or.inr (by decide))).trans h0, (set_apart (Or.inr (by decide))).trans h1, World.cell?_setCell_same' _ _ _ (by rw [h2]; rfl), (set_apart (Or.inr (by decide))).trans h3, (set_apart (Or.inr (by decide))).trans h4, (set_apart (Or.inr (by decide))).trans h5, (set_apart (Or.inr (by decide))).trans h6, (set_apart (Or.inr (by decide))).trans h7, (set_apart (Or.inr (by decide))).trans h8, (set_apart (Or.inr (by decide))).trans h9⟩
theorem P10.put3 {w : World} {b : Nat} {t : Til} (h : P10 w b t) (v : Int) : P10 (w.setCell ⟨b, 3, none⟩ (.int .i64 v)) b { t with tw := v } := by
  obtain ⟨h0, h1, h2, h3, h4, h5, h6, h7, h8, h9⟩ := h
  exact ⟨(set_apart (Or.inr (by decide))).trans h0, (set_apart (Or.inr (by decide))).trans h1, (set_apart (Or.inr (by decide))).trans h2, World.cell?_setCell_same' _ _ _ (by rw [h3]; rfl), (set_apart (Or.inr (by decide))).trans h4, (set_apart (Or.inr (by decide))).trans h5, (set_apart (Or.inr (by decide))).trans h6, (set_apart (Or.inr (by decide))).trans h7, (set_apart (Or.inr (by decide))).trans h8, (set_apart (Or.inr (by decide))).trans h9⟩
theorem P10.put4 {w : World} {b : Nat} {t : Til} (h : P10 w b t) (v : Int) : P10 (w.setCell ⟨b, 4, none⟩ (.int .i64 v)) b { t with th := v } := by
  obtain ⟨h0, h1, h2, h3, h4, h5, h6, h7, h8, h9⟩ := h
  exact ⟨(set_apart (Or.inr (by decide))).trans h0, (set_apart (Or.inr (by decide))).trans h1, (set_apart (Or.inr (by decide))).trans h2, (set_apart (Or.inr (by decide))).trans h3, World.cell?_setCell_same' _ _ _ (by rw [h4]; rfl), (set_apart (Or.inr (by decide))).trans h5, (set_apart (Or.inr (by decide))).trans h6, (set_apart (Or.inr (by decide))).trans h7, (set_apart (Or.inr (by decide))).trans h8, (set_apart (Or.inr (by decide))).trans h9⟩
theorem P10.put5 {w : World} {b : Nat} {t : Til} (h : P10 w b t) (v : Int) : P10 (w.setCell ⟨b, 5, none⟩ (.int .i64 v)) b { t with fx := v } := by
  obtain ⟨h0, h1, h2, h3, h4, h5, h6, h7, h8, h9⟩ := h
  exact ⟨(set_apart (Or.inr (by decide))).trans h0, (set_apart (Or.inr (by decide))).trans h1, (set_apart (Or.inr (by decide))).trans h2, (set_apart (Or.inr (by decide))).trans h3, (set_apart (Or.inr (by decide))).trans h4, World.cell?_setCell_same' _ _ _ (by rw [h5]; rfl), (set_apart (Or.inr (by decide))).trans h6, (set_apart (Or.inr (by decide))).trans h7, (set_apart (Or.inr (by decide))).trans h8, (set_apart (Or.inr (by decide))).trans h9⟩
theorem P10.put6 {w : World} {b : Nat} {t : Til} (h : P10 w b t) (v : Int) : P10 (w.setCell ⟨b, 6, none⟩ (.int .i64 v)) b { t with fy := v } := by
  obtain ⟨h0, h1, h2, h3, h4, h5, h6, h7, h8, h9⟩ := h
  exact ⟨(set_apart (Or.inr (by decide))).trans h0, (set_apart (Or.inr (by decide))).trans h1, (set_apart (Or.inr (by decide))).trans h2, (set_apart (Or.inr (by decide))).trans h3, (set_apart (Or.inr (by decide))).trans h4, (set_apart (Or.inr (by decide))).trans h5, World.cell?_setCell_same' _ _ _ (by rw [h6]; rfl), (set_apart (Or.inr (by decide))).trans h7, (set_apart (Or.inr (by decide))).trans h8, (set_apart (Or.inr (by decide))).trans h9⟩
theorem P10.put7 {w : World} {b : Nat} {t : Til} (h : P10 w b t) (v : Int) : P10 (w.setCell ⟨b, 7, none⟩ (.int .i64 v)) b { t with cx := v } := by
  obtain ⟨h0, h1, h2, h3, h4, h5, h6, h7, h8, h9⟩ := h
  exact ⟨(set_apart (Or.inr (by decide))).trans h0, (set_apart (Or.inr (by decide))).trans h1, (set_apart (Or.inr (by decide))).trans h2, (set_apart (Or.inr (by decide))).trans h3, (set_apart (Or.inr (by decide))).trans h4, (set_apart (Or.inr (by decide))).trans h5, (set_apart (Or.inr (by decide))).trans h6, World.cell?_setCell_same' _ _ _ (by rw [h7]; rfl), (set_apart (Or.inr (by decide))).trans h8, (set_apart (Or.inr (by decide))).trans h9⟩
theorem P10.put8 {w : World} {b : Nat} {t : Til} (h : P10 w b t) (v : Int) : P10 (w.setCell ⟨b, 8, none⟩ (.int .i64 v)) b { t with cy := v } := by
  obtain ⟨h0, h1, h2, h3, h4, h5, h6, h7, h8, h9⟩ := h
  exact ⟨(set_apart (Or.inr (by decide))).trans h0, (set_apart (Or.inr (by decide))).trans h1, (set_apart (Or.inr (by decide))).trans h2, (set_apart (Or.inr (by decide))).trans h3, (set_apart (Or.inr (by decide))).trans h4, (set_apart (Or.inr (by decide))).trans h5, (set_apart (Or.inr (by decide))).trans h6, (set_apart (Or.inr (by decide))).trans h7, World.cell?_setCell_same' _ _ _ (by rw [h8]; rfl), (set_apart (Or.inr (by decide))).trans h9⟩
theorem P10.put9 {w : World} {b : Nat} {t : Til} (h : P10 w b t) (v : Int) : P10 (w.setCell ⟨b, 9, none⟩ (.int .i64 v)) b { t with rg := v } := by
  obtain ⟨h0, h1, h2, h3, h4, h5, h6, h7, h8, h9⟩ := h
  exact ⟨(set_apart (Or.inr (by decide))).trans h0, (set_apart (Or.inr (by decide))).trans h1, (set_apart (Or.inr (by decide))).trans h2, (set_apart (Or.inr (by decide))).trans h3, (set_apart (Or.inr (by decide))).trans h4, (set_apart (Or.inr (by decide))).trans h5, (set_apart (Or.inr (by decide))).trans h6, (set_apart (Or.inr (by decide))).trans h7, (set_apart (Or.inr (by decide))).trans h8, World.cell?_setCell_same' _ _ _ (by rw [h9]; rfl)⟩
theorem F10.put {w : World} {b : Nat} (h : F10 w b) (c o : Nat) (v : Value) : F10 (w.setCell ⟨c, o, none⟩ v) b := by
  obtain ⟨f0, f1, f2, f3, f4, f5, f6, f7, f8, f9, hl⟩ := h
  unfold F10
  simp only [World.frozen?_setCell]
  exact ⟨f0, f1, f2, f3, f4, f5, f6, f7, f8, f9, by simpa [World.setCell] using hl⟩
/-- All ten are written. -/
def fill10 (w : World) (b : Nat) (t : Til) : World := (((((((((w.setCell ⟨b, 0, none⟩ (.int .i64 t.tn)).setCell ⟨b, 1, none⟩ (.int .i64 t.tx)).setCell ⟨b, 2, none⟩ (.int .i64 t.ty)).setCell ⟨b, 3, none⟩ (.int .i64 t.tw)).setCell ⟨b, 4, none⟩ (.int .i64 t.th)).setCell ⟨b, 5, none⟩ (.int .i64 t.fx)).setCell ⟨b, 6, none⟩ (.int .i64 t.fy)).setCell ⟨b, 7, none⟩ (.int .i64 t.cx)).setCell ⟨b, 8, none⟩ (.int .i64 t.cy)).setCell ⟨b, 9, none⟩ (.int .i64 t.rg)
theorem P10.fill {w : World} {b : Nat} {s : Til} (h : P10 w b s) (t : Til) : P10 (fill10 w b t) b t := (((((((((h.put0 t.tn).put1 t.tx).put2 t.ty).put3 t.tw).put4 t.th).put5 t.fx).put6 t.fy).put7 t.cx).put8 t.cy).put9 t.rg
theorem fill10_below {a w : World} {b : Nat} (h : Below a.heap.size a w) (hb : a.heap.size ≤ b) (t : Til) : Below a.heap.size a (fill10 w b t) := bs (bs (bs (bs (bs (bs (bs (bs (bs (bs h hb _) hb _) hb _) hb _) hb _) hb _) hb _) hb _) hb _) hb _
theorem fill10_far {w : World} {b c o : Nat} (hne : b ≠ c) (t : Til) : (fill10 w b t).cell? ⟨c, o, none⟩ = w.cell? ⟨c, o, none⟩ := by
  unfold fill10
  rw [set_apart (Or.inl hne), set_apart (Or.inl hne), set_apart (Or.inl hne), set_apart (Or.inl hne), set_apart (Or.inl hne), set_apart (Or.inl hne), set_apart (Or.inl hne), set_apart (Or.inl hne), set_apart (Or.inl hne), set_apart (Or.inl hne)]
theorem F10.fill {w : World} {b : Nat} (h : F10 w b) (t : Til) : F10 (fill10 w b t) b := (((((((((h.put _ _ _).put _ _ _).put _ _ _).put _ _ _).put _ _ _).put _ _ _).put _ _ _).put _ _ _).put _ _ _).put _ _ _
set_option maxHeartbeats 8000000 in
set_option maxRecDepth 100000 in
/-- A tile that there is. -/
theorem tile14_any {w : World} {v x y : Value} {S : Stg} {a b : Int} (h : PlanAt w v x y S a b) (i : Int) (i0 : 0 ≤ i) (i1 : i < countF S.lx S.ly a b) :
    Calls Tryz.prog 28 #[v, .int .i64 i] w fun e w' => e = .returned (tilV (tilF S.lx S.ly a b i)) ∧ Below w.heap.size w w' := by
  have CO := fun w' (b' : Below w.heap.size w w') => out_any (h.below b') i i0 i1
  obtain ⟨g, rfl, hs, tx, ty, ht⟩ := h
  obtain ⟨ax, rfl⟩ := tx.ptr
  obtain ⟨ay, rfl⟩ := ty.ptr
  obtain ⟨a0, a1, b0, b1⟩ := tileB_iff.1 ht
  have ok := tilF_ok (LX := S.lx) (LY := S.ly) tx.ok.1 ty.ok.1 tx.ok.2.1 a0 b0 i0 i1
  have m1 := tx.ok.2.2.1
  have n1 := ty.ok.2.2.1
  have CM := fun w' (b' : Below w.heap.size w w') => tab_most (ty.below b')
  have CX := fun i j (h0 : -9223372036854775808 ≤ i) h1 (h2 : -9223372036854775808 ≤ j) h3 w' (b' : Below w.heap.size w w') => tab_reach (tx.below b') i j h0 h1 h2 h3
  have CY := fun i j (h0 : -9223372036854775808 ≤ i) h1 (h2 : -9223372036854775808 ≤ j) h3 w' (b' : Below w.heap.size w w') => tab_reach (ty.below b') i j h0 h1 h2 h3
  obtain ⟨X, Y, Wd, Hd, fx, fy, cx, cy, M, hE, hX, hY⟩ : ∃ X Y Wd Hd fx fy cx cy M, tilF S.lx S.ly a b i = ⟨i, X, Y, Wd, Hd, fx, fy, cx, cy, M⟩ ∧ (X = i % acrossF S.lx a * a ∧ Y = i / acrossF S.lx a * b ∧ Wd = min a ((S.lx.length : Int) - i % acrossF S.lx a * a) ∧ Hd = min b ((S.ly.length : Int) - i / acrossF S.lx a * b) ∧ M = mostF S.ly) ∧
      ((fx = (reachF S.lx X (X + Wd)).1 ∧ cx = (reachF S.lx X (X + Wd)).2.1 - (reachF S.lx X (X + Wd)).1) ∧ fy = (reachF S.ly Y (Y + Hd)).1 ∧ cy = (reachF S.ly Y (Y + Hd)).2.1 - (reachF S.ly Y (Y + Hd)).1) :=
    ⟨_, _, _, _, _, _, _, _, _, rfl, ⟨rfl, rfl, rfl, rfl, rfl⟩, ⟨rfl, rfl⟩, rfl, rfl⟩
  rw [hE] at ok ⊢
  obtain ⟨⟨X0, X1⟩, ⟨Y0, Y1⟩, ⟨W0, W1⟩, ⟨H0, H1⟩, ⟨f0, f1⟩, ⟨f2, f3⟩, ⟨f4, f5⟩, ⟨f6, f7⟩, ⟨f8, f9⟩⟩ := ok
  simp only at X0 X1 Y0 Y1 W0 W1 H0 H1 f0 f1 f2 f3 f4 f5 f6 f7 f8 f9
  obtain ⟨e1, e2, e3, e4, e5⟩ := hX
  obtain ⟨⟨g1, g2⟩, g3, g4⟩ := hY
  rw [← e3, ← e4, ← e1, ← e2] at CO
  rw [← e5] at CM
  have wx : IntKind.i64.wrap (X + Wd) = X + Wd := by rw [IntKind.wrap_i64]; omega
  have wy : IntKind.i64.wrap (Y + Hd) = Y + Hd := by rw [IntKind.wrap_i64]; omega
  replace CX := CX X (X + Wd) (by omega) (by omega) (by omega) (by omega)
  replace CY := CY Y (Y + Hd) (by omega) (by omega) (by omega) (by omega)
  rw [← g2, ← g1] at CX
  rw [← g4, ← g3] at CY
  have HS := hide hs
  have gl : g < w.heap.size := cell_ltL hs.1.1
  unfold tilV
  clear hs tx ty ht hE e1 e2 e3 e4 e5 g1 g2 g3 g4 m1 n1 i1
  go_enter Tryz.func28, Tryz.ntmps28
  go_upto_region 2 with (go_at_call 47; (with_reducible refine (CO _ (below1 _ _)).mono ?_); rintro e w5 ⟨rfl, b5⟩; have D5 := hide (bt (below1 w (.cells #[.int .i64 0, .int .i64 0, .int .i64 0, .int .i64 0, .int .i64 0, .int .i64 0, .int .i64 0, .int .i64 0, .int .i64 0, .int .i64 0] 46)) b5); have T5 := hide ((P10.new w 46 til0).below b5); have F5 := hide ((F10.new w #[.int .i64 0, .int .i64 0, .int .i64 0, .int .i64 0, .int .i64 0, .int .i64 0, .int .i64 0, .int .i64 0, .int .i64 0, .int .i64 0] 46).below b5))
  obtain ⟨W, hW⟩ : ∃ W, w5.alloc (.cells #[.int .i64 X, .int .i64 Y, .int .i64 Wd, .int .i64 Hd] 44) = W := ⟨_, rfl⟩
  obtain ⟨RB, hRB⟩ : ∃ RB, w5.heap.size = RB := ⟨_, rfl⟩
  have BW := hide (show Below w5.heap.size w5 W by rw [← hW]; exact below1 _ _)
  have RW := hide (show R4 W RB (.int .i64 X) (.int .i64 Y) (.int .i64 Wd) (.int .i64 Hd) by rw [← hW, ← hRB]; exact R4.new _ _ _ _ _ _)
  have ZW : RB < W.heap.size := by rw [← hW, ← hRB]; simp
  have DW := hide (bt D5.out BW.out)
  have TW := hide (T5.out.below BW.out)
  have FW := hide (F5.out.below BW.out)
  rw [hW, hRB]
  clear hW hRB BW D5 T5 F5 b5
  have z0 : w.heap.size < W.heap.size := FW.out.2.2.2.2.2.2.2.2.2.2
  go_cut [6] (fun t wx => ∃ TB, t = .pointer (some ⟨TB, 0, none⟩) ∧ W.heap.size ≤ TB ∧ P10 wx TB ⟨i, X, Y, Wd, Hd, 0, 0, 0, 0, M⟩ ∧ F10 wx TB ∧ Below W.heap.size W wx)
  case first =>
    obtain ⟨_, ⟨y1, _⟩, _⟩ := HS.out.below DW.out
    obtain ⟨⟨r0, _⟩, ⟨r1, _⟩, ⟨r2, _⟩, ⟨r3, _⟩⟩ := RW.out
    have hTN := hide (show P10 (W.drew.alloc (.cells #[.int .i64 0, .int .i64 0, .int .i64 0, .int .i64 0, .int .i64 0, .int .i64 0, .int .i64 0, .int .i64 0, .int .i64 0, .int .i64 0] 46)) W.heap.size ⟨0, 0, 0, 0, 0, 0, 0, 0, 0, 0⟩ from P10.new W.drew 46 til0)
    have hFN := hide (show F10 (W.drew.alloc (.cells #[.int .i64 0, .int .i64 0, .int .i64 0, .int .i64 0, .int .i64 0, .int .i64 0, .int .i64 0, .int .i64 0, .int .i64 0, .int .i64 0] 46)) W.heap.size from F10.new W.drew #[.int .i64 0, .int .i64 0, .int .i64 0, .int .i64 0, .int .i64 0, .int .i64 0, .int .i64 0, .int .i64 0, .int .i64 0, .int .i64 0] 46)
    have n1 : W.heap.size ≠ g := by omega
    have n2 : W.heap.size ≠ RB := by omega
    go_region_held3 (fun w' => w'.cell? ⟨g, 1, none⟩ = some (.pointer (some ay)) ∧ w'.cell? ⟨RB, 0, none⟩ = some (.int .i64 X) ∧ w'.cell? ⟨RB, 1, none⟩ = some (.int .i64 Y) ∧ w'.cell? ⟨RB, 2, none⟩ = some (.int .i64 Wd) ∧ w'.cell? ⟨RB, 3, none⟩ = some (.int .i64 Hd)) (first | with_reducible assumption | (with_reducible exact ⟨x1, s0, s1, s2, s3⟩) | (simp only [set_apart (Or.inl n1), set_apart (Or.inl n2), x1, s0, s1, s2, s3, and_self]; done) | go_keep)
      (first
        | (go_at_call 13; (with_reducible refine (CM _ (bt DW.out (by repeat (first | exact Below.refl _ _ | (with_reducible refine bdN ?_ _) | with_reducible refine bd ?_ | with_reducible refine ba ?_ _)))).mono ?_); rintro e w8 ⟨rfl, b8⟩; have D8 : Below W.heap.size W w8 := bt (by repeat (first | exact Below.refl _ _ | (with_reducible refine bdN ?_ _) | with_reducible refine bd ?_ | with_reducible refine ba ?_ _)) b8; have K8 := hide D8; obtain ⟨_, ⟨x1, _⟩, _⟩ := HS.out.below (bt DW.out D8); obtain ⟨⟨s0, _⟩, ⟨s1, _⟩, ⟨s2, _⟩, ⟨s3, _⟩⟩ := RW.out.below D8; clear D8; (first | (have P8 := hide (hTN.out.below b8); have F8 := hide (hFN.out.below b8); obtain ⟨p0, p1, p2, p3, p4, p5, p6, p7, p8, p9⟩ := P8.out; obtain ⟨q0, q1, q2, q3, q4, q5, q6, q7, q8, q9, _⟩ := F8.out; simp only at p0 p1 p2 p3 p4 p5 p6 p7 p8 p9) | skip)))
    · go_wp2_with fail
      go_meet
      exact ⟨_, rfl, K8.out.size, P10.new _ _ ⟨i, X, Y, Wd, Hd, 0, 0, 0, 0, M⟩, F10.new _ _ _, ba K8.out _⟩
    · go_wp2_with fail
      go_meet
      exact ⟨_, rfl, Nat.le_refl _, P8.out.fill ⟨i, X, Y, Wd, Hd, 0, 0, 0, 0, M⟩, F8.out.fill ⟨i, X, Y, Wd, Hd, 0, 0, 0, 0, M⟩, fill10_below K8.out (Nat.le_refl _) ⟨i, X, Y, Wd, Hd, 0, 0, 0, 0, M⟩⟩
  case rest =>
    obtain ⟨TB, rfl, hTB, hP, hF, hB⟩ := hcut
    have n1 : TB ≠ g := by omega
    have n2 : TB ≠ RB := by omega
    have aP := hide hP
    have aF := hide hF
    have aK := hide hB
    clear hP hF hB
    go_upto_region 3 with fail
    go_cut [] (fun wx => P10 wx TB ⟨i, X, Y, Wd, Hd, fx, 0, cx, 0, M⟩ ∧ F10 wx TB ∧ Below W.heap.size W wx)
    case first =>
      have y8 := HS.out.below (bt DW.out aK.out)
      obtain ⟨⟨y0, _⟩, _⟩ := y8
      have ry := RW.out.below aK.out
      obtain ⟨⟨r0, _⟩, ⟨r1, _⟩, ⟨r2, _⟩, ⟨r3, _⟩⟩ := ry
      go_region_held3 (fun w' => w'.cell? ⟨g, 0, none⟩ = some (.pointer (some ax)) ∧ w'.cell? ⟨RB, 0, none⟩ = some (.int .i64 X) ∧ w'.cell? ⟨RB, 2, none⟩ = some (.int .i64 Wd)) (first | with_reducible assumption | (with_reducible exact ⟨y0, r0, r2⟩) | (with_reducible exact ⟨x0, s0, s2⟩) | (simp only [set_apart (Or.inl n1), set_apart (Or.inl n2), x0, s0, s2, and_self]; done) | go_keep)
        (first
          | (go_at_call 48; (with_reducible refine (CX _ (bt DW.out (bt aK.out (bd (Below.refl _ _))))).mono ?_); rintro e w8 ⟨rfl, b8⟩; have D8 : Below W.heap.size W w8 := bt aK.out (bt (bd (Below.refl _ _)) b8); have K8 := hide D8; obtain ⟨⟨x0, _⟩, _⟩ := HS.out.below (bt DW.out D8); obtain ⟨⟨s0, _⟩, ⟨s1, _⟩, ⟨s2, _⟩, ⟨s3, _⟩⟩ := RW.out.below D8; clear D8; have P8 := hide ((aP.out.below (bd (Below.refl _ _))).below b8); have F8 := hide ((aF.out.below (bd (Below.refl _ _))).below b8); obtain ⟨p0, p1, p2, p3, p4, p5, p6, p7, p8, p9⟩ := P8.out; obtain ⟨q0, q1, q2, q3, q4, q5, q6, q7, q8, q9, _⟩ := F8.out; simp only at p0 p1 p2 p3 p4 p5 p6 p7 p8 p9))
      all_goals
        go_wp2_with fail
        go_meet
      all_goals first
        | exact ⟨(P8.out.put5 fx).put7 cx, (F8.out.put _ _ _).put _ _ _, bs (bs K8.out hTB _) hTB _⟩
        | exact ⟨(P8.out.put7 cx).put5 fx, (F8.out.put _ _ _).put _ _ _, bs (bs K8.out hTB _) hTB _⟩
    case rest =>
      obtain ⟨hP, hF, hB⟩ := hcut
      have bP := hide hP
      have bF := hide hF
      have bK := hide hB
      clear hP hF hB aP aF aK
      go_upto_region 4 with fail
      go_cut [] (fun wx => P10 wx TB ⟨i, X, Y, Wd, Hd, fx, fy, cx, cy, M⟩ ∧ F10 wx TB ∧ Below W.heap.size W wx)
      case first =>
        have y8 := HS.out.below (bt DW.out bK.out)
        obtain ⟨_, ⟨y0, _⟩, _⟩ := y8
        have ry := RW.out.below bK.out
        obtain ⟨⟨r0, _⟩, ⟨r1, _⟩, ⟨r2, _⟩, ⟨r3, _⟩⟩ := ry
        go_region_held3 (fun w' => w'.cell? ⟨g, 1, none⟩ = some (.pointer (some ay)) ∧ w'.cell? ⟨RB, 1, none⟩ = some (.int .i64 Y) ∧ w'.cell? ⟨RB, 3, none⟩ = some (.int .i64 Hd)) (first | with_reducible assumption | (with_reducible exact ⟨y0, r1, r3⟩) | (with_reducible exact ⟨x0, s1, s3⟩) | (simp only [set_apart (Or.inl n1), set_apart (Or.inl n2), x0, s1, s3, and_self]; done) | go_keep)
          (first
            | (go_at_call 48; (with_reducible refine (CY _ (bt DW.out (bt bK.out (bd (Below.refl _ _))))).mono ?_); rintro e w8 ⟨rfl, b8⟩; have D8 : Below W.heap.size W w8 := bt bK.out (bt (bd (Below.refl _ _)) b8); have K8 := hide D8; obtain ⟨_, ⟨x0, _⟩, _⟩ := HS.out.below (bt DW.out D8); obtain ⟨⟨s0, _⟩, ⟨s1, _⟩, ⟨s2, _⟩, ⟨s3, _⟩⟩ := RW.out.below D8; clear D8; have P8 := hide ((bP.out.below (bd (Below.refl _ _))).below b8); have F8 := hide ((bF.out.below (bd (Below.refl _ _))).below b8); obtain ⟨p0, p1, p2, p3, p4, p5, p6, p7, p8, p9⟩ := P8.out; obtain ⟨q0, q1, q2, q3, q4, q5, q6, q7, q8, q9, _⟩ := F8.out; simp only at p0 p1 p2 p3 p4 p5 p6 p7 p8 p9))
        all_goals
          go_wp2_with fail
          go_meet
        all_goals first
          | exact ⟨(P8.out.put6 fy).put8 cy, (F8.out.put _ _ _).put _ _ _, bs (bs K8.out hTB _) hTB _⟩
          | exact ⟨(P8.out.put8 cy).put6 fy, (F8.out.put _ _ _).put _ _ _, bs (bs K8.out hTB _) hTB _⟩
      case rest =>
        obtain ⟨hP, hF, hB⟩ := hcut
        have BZ := hide (bt DW.out hB)
        have PZ := hide (TW.out.below hB)
        have FZ := hide (FW.out.below hB)
        have E := hide (PZ.out.fill ⟨i, X, Y, Wd, Hd, fx, fy, cx, cy, M⟩)
        have EB := hide (fill10_below BZ.out (Nat.le_refl _) ⟨i, X, Y, Wd, Hd, fx, fy, cx, cy, M⟩)
        obtain ⟨p0, p1, p2, p3, p4, p5, p6, p7, p8, p9⟩ := hP
        obtain ⟨t0, t1, t2, t3, t4, t5, t6, t7, t8, t9⟩ := PZ.out
        obtain ⟨q0, q1, q2, q3, q4, q5, q6, q7, q8, q9, _⟩ := FZ.out
        unfold til0 at t0 t1 t2 t3 t4 t5 t6 t7 t8 t9
        simp only at p0 p1 p2 p3 p4 p5 p6 p7 p8 p9 t0 t1 t2 t3 t4 t5 t6 t7 t8 t9
        clear hF hB HS RW DW TW FW bP bF bK
        go_wp2
        obtain ⟨u0, u1, u2, u3, u4, u5, u6, u7, u8, u9⟩ := E.out
        unfold fill10 at u0 u1 u2 u3 u4 u5 u6 u7 u8 u9
        simp only at u0 u1 u2 u3 u4 u5 u6 u7 u8 u9
        exact bodyPost_ret (v := .agg #[.int .i64 i, .int .i64 X, .int .i64 Y, .int .i64 Wd, .int .i64 Hd, .int .i64 fx, .int .i64 fy, .int .i64 cx, .int .i64 cy, .int .i64 M]) (by simp [results, Tryz.results28, go_sem, u0, u1, u2, u3, u4, u5, u6, u7, u8, u9]) rfl ⟨rfl, EB.out⟩
end Go.Proofs.YtdpkigdfhfippaaGreatDoor
