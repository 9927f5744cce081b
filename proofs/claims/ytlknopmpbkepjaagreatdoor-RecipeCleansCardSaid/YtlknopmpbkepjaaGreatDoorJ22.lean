/- Parts, joined. -/
import Derived.Test.YtlknopmpbkepjaaGreatDoorJ21
import Derived.Test.YtlknopmpbkepjaaGreatDoorJ13
import Derived.Test.YtlknopmpbkepjaaGreatDoorJ14
import Derived.Test.YtlknopmpbkepjaaGreatDoorJ02
import Derived.Test.YtlknopmpbkepjaaGreatDoorJ10
import Derived.Test.YtlknopmpbkepjaaGreatDoorRows
import Derived.Test.YtlknopmpbkepjaaGreatDoorJ18
import Derived.Test.YtlknopmpbkepjaaGreatDoorJ17
import Derived.Test.YtlknopmpbkepjaaGreatDoorJ08
import Derived.Test.YtlknopmpbkepjaaGreatDoorJ11
import Derived.Test.YtlknopmpbkepjaaGreatDoorJ19
import Derived.ProofKit
import Derived.LaidMore
import Derived.OpenShut
import Derived.Deep.RegionHeld3
/- Operations as texts: the program's Clean; what is the same. -/
namespace Go.Proofs.YtlknopmpbkepjaaGreatDoor
open Go.RowKit


/-- Nine cells that may be written. -/
def F9 (w : World) (b : Nat) : Prop :=
  w.frozen? ⟨b, 0, none⟩ = false ∧ w.frozen? ⟨b, 1, none⟩ = false ∧ w.frozen? ⟨b, 2, none⟩ = false ∧ w.frozen? ⟨b, 3, none⟩ = false ∧ w.frozen? ⟨b, 4, none⟩ = false ∧ w.frozen? ⟨b, 5, none⟩ = false ∧ w.frozen? ⟨b, 6, none⟩ = false ∧ w.frozen? ⟨b, 7, none⟩ = false ∧ w.frozen? ⟨b, 8, none⟩ = false ∧ b < w.heap.size
theorem F9.new (w : World) (cs : Array Value) (T : TypeId) : F9 (w.alloc (.cells cs T)) w.heap.size := by
  unfold F9
  simp
theorem F9.below {w w' : World} {b : Nat} (h : F9 w b) (hb : Below w.heap.size w w') : F9 w' b := by
  obtain ⟨f0, f1, f2, f3, f4, f5, f6, f7, f8, hl⟩ := h
  exact ⟨fb hb hl f0, fb hb hl f1, fb hb hl f2, fb hb hl f3, fb hb hl f4, fb hb hl f5, fb hb hl f6, fb hb hl f7, fb hb hl f8, Nat.lt_of_lt_of_le hl hb.size⟩
/-- A row of numbers in a block of so high a number. -/
def RowNew (w : World) (B : Nat) (ad : Option Addr) (xs : List Int) : Prop := RowAt .i64 w ad xs ∧ ∀ a, ad = some a → B ≤ a.block
theorem RowNew.below {w w' : World} {B : Nat} {ad : Option Addr} {xs : List Int} (h : RowNew w B ad xs) (hb : Below w.heap.size w w') : RowNew w' B ad xs := ⟨h.1.below hb, h.2⟩
theorem RowNew.mono {w : World} {B B' : Nat} {ad : Option Addr} {xs : List Int} (h : RowNew w B ad xs) (hb : B' ≤ B) : RowNew w B' ad xs := ⟨h.1, fun a e => Nat.le_trans hb (h.2 a e)⟩
theorem RowNew.set {w : World} {B : Nat} {ad : Option Addr} {xs : List Int} (h : RowNew w B ad xs) {b : Nat} (hb : b < B) (o : Nat) (u : Value) : RowNew (w.setCell ⟨b, o, none⟩ u) B ad xs := by
  refine ⟨?_, h.2⟩
  rcases h.1 with e | ⟨g, off, e, c⟩
  · exact .inl e
  · have hg := h.2 _ e
    refine .inr ⟨g, off, e, fun j hj => ?_⟩
    rw [World.cell?_setCell_other _ _ _ _ (by intro e'; simp only [Addr.mk.injEq] at e'; simp only at hg; omega)]
    exact c j hj
theorem row_set11 {w : World} {B b c : Nat} {ad : Option Addr} {xs : List Int} (h : RowNew w B ad xs) (hb : b < B) (hc : c < B) (i j : Nat) (x y v0 v1 v2 v3 v4 v5 v6 v7 v8 : Value) : RowAt .i64 (((((((((((w.setCell ⟨c, i, none⟩ x).setCell ⟨c, j, none⟩ y).setCell ⟨b, 0, none⟩ v0).setCell ⟨b, 1, none⟩ v1).setCell ⟨b, 2, none⟩ v2).setCell ⟨b, 3, none⟩ v3).setCell ⟨b, 4, none⟩ v4).setCell ⟨b, 5, none⟩ v5).setCell ⟨b, 6, none⟩ v6).setCell ⟨b, 7, none⟩ v7).setCell ⟨b, 8, none⟩ v8) ad xs :=
  (((((((((((h.set hc i x).set hc j y).set hb 0 v0).set hb 1 v1).set hb 2 v2).set hb 3 v3).set hb 4 v4).set hb 5 v5).set hb 6 v6).set hb 7 v7).set hb 8 v8).1
theorem below_set11 {B b c : Nat} {w0 w : World} (h : Below B w0 w) (hb : B ≤ b) (hc : B ≤ c) (i j : Nat) (x y v0 v1 v2 v3 v4 v5 v6 v7 v8 : Value) : Below B w0 (((((((((((w.setCell ⟨c, i, none⟩ x).setCell ⟨c, j, none⟩ y).setCell ⟨b, 0, none⟩ v0).setCell ⟨b, 1, none⟩ v1).setCell ⟨b, 2, none⟩ v2).setCell ⟨b, 3, none⟩ v3).setCell ⟨b, 4, none⟩ v4).setCell ⟨b, 5, none⟩ v5).setCell ⟨b, 6, none⟩ v6).setCell ⟨b, 7, none⟩ v7).setCell ⟨b, 8, none⟩ v8) :=
  (((((((((((h.setCell (p := ⟨c, i, none⟩) hc x).setCell (p := ⟨c, j, none⟩) hc y).setCell (p := ⟨b, 0, none⟩) hb v0).setCell (p := ⟨b, 1, none⟩) hb v1).setCell (p := ⟨b, 2, none⟩) hb v2).setCell (p := ⟨b, 3, none⟩) hb v3).setCell (p := ⟨b, 4, none⟩) hb v4).setCell (p := ⟨b, 5, none⟩) hb v5).setCell (p := ⟨b, 6, none⟩) hb v6).setCell (p := ⟨b, 7, none⟩) hb v7).setCell (p := ⟨b, 8, none⟩) hb v8)
theorem own_new {T : TypeId} {w : World} {base n : Nat} {v : Value} {xs : List Int} (h : OwnI .i64 T w base v xs) (hn : xs.length = n) : ∃ ad cap, v = .slice ad n cap ∧ RowNew w base ad xs ∧ (ad = none → cap = 0) := by
  subst hn
  obtain ⟨ad, cap, h1, h2, h3, h4, _⟩ := h.form
  exact ⟨ad, cap, h1, ⟨h2, fun a e => by obtain ⟨g, rfl, h5, _⟩ := h4 a e; exact h5⟩, fun e => (h3 e).2⟩
theorem copied_any (xs : List Int) (n : Nat) (hn : xs.length = n) (h1 : n ≤ 1000000) (ad : Option Addr) (cap : Nat) (w : World) (hr : RowAt .i64 w ad xs) (hz : ad = none → cap = 0) :
    Calls Tryz.prog 14 #[.slice ad n cap] w fun e w' => (∃ ad' cap', e = .returned (.slice ad' n cap') ∧ RowNew w' w.heap.size ad' xs ∧ (ad' = none → cap' = 0)) ∧ Below w.heap.size w w' := by
  obtain ⟨i0, hi, hz0, hz1, hz2⟩ := info_parts infoI64Q
  have HN := hide hn
  have HR := hide hr
  have HZ := hide hz
  clear hn hr hz
  go_enter Tryz.func14, Tryz.ntmps14
  go_wp2_with (at_builtin; refine wpList_append_row .i64 _ rfl _ _ 24 rfl w.heap.size 2 i0 (.int .i64 0) 8 Tryz.underlying24 hi hz0 hz1 hz2 rfl (.slice none 0 0) [] rfl (OwnI.nil _ _ _ _) ad n cap xs rfl HN.out HR.out HZ.out (by simp; unfold maxLen; omega) (by simp; omega) (Nat.le_refl _) ?_; intro v2 w2 o2 g2 _)
  obtain ⟨ad', cap', rfl, r2, z2⟩ := own_new o2 HN.out
  have B2 := (Below.refl w.heap.size w).grown g2 (Nat.le_refl _) (fun g hg => by cases hg)
  have HA := hide (And.intro r2 (And.intro z2 B2))
  clear o2 g2 r2 z2 B2
  go_wp2
  go_ret
  exact ⟨⟨_, _, rfl, HA.out.1, HA.out.2.1⟩, HA.out.2.2⟩
set_option maxHeartbeats 4000000 in
set_option maxRecDepth 100000 in
theorem clean_two (o : Opr) (ax : Option Addr) (cx : Nat) (ay : Option Addr) (cy : Nat) (w : World) (hA : OpAt w o ax cx ay cy) (l1 : o.xs.length ≤ 1000000) (l2 : o.ys.length ≤ 1000000) (k2 : o.kd = 2) :
    Calls Tryz.prog 6 #[opV o ax cx ay cy] w fun e w' => (∃ bx dx by_ dy, e = .returned (opV (clnO o) bx dx by_ dy) ∧ OpAt w' (clnO o) bx dx by_ dy) ∧ Below w.heap.size w w' := by
  have CX := fun w' (b : Below w.heap.size w w') => copied_any o.xs o.xs.length rfl l1 ax cx w' (hA.1.below b) hA.2.2.1
  have CY := fun w' (b : Below w.heap.size w w') => copied_any o.ys o.ys.length rfl l2 ay cy w' (hA.2.1.below b) hA.2.2.2
  clear hA
  unfold opV clnO
  obtain ⟨kd, bo, sg, rd, xs, ys, fl, wd, ht⟩ := o
  simp only at *
  subst k2
  simp only [Int.reduceEq, if_true, if_false]
  generalize hnx : xs.length = nx at *
  generalize hny : ys.length = ny at *
  go_enter Tryz.func6, Tryz.ntmps6
  go_upto_region 8 with fail
  obtain ⟨WA, hWA⟩ : ∃ W, w.alloc (.cells #[.int .i64 2, .int .i64 bo, .int .i64 sg, .int .i64 rd, .slice ax nx cx, .slice ay ny cy, .int .i64 fl, .int .i64 wd, .int .i64 ht] 27) = W := ⟨_, rfl⟩
  obtain ⟨WZ, hWZ⟩ : ∃ W, WA.alloc (.cells #[.int .i64 0, .int .i64 0, .int .i64 0, .int .i64 0, .slice none 0 0, .slice none 0 0, .int .i64 0, .int .i64 0, .int .i64 0] 27) = W := ⟨_, rfl⟩
  obtain ⟨W0, hW0⟩ : ∃ W, WZ.alloc (.cells #[.int .i64 2, .int .i64 bo, .int .i64 0, .int .i64 0, .slice none 0 0, .slice none 0 0, .int .i64 0, .int .i64 0, .int .i64 0] 27) = W := ⟨_, rfl⟩
  have sA : WA.heap.size = w.heap.size + 1 := by rw [← hWA, World.size_alloc]
  have sZ : WZ.heap.size = w.heap.size + 1 + 1 := by rw [← hWZ, World.size_alloc, sA]
  have HS0 := hide (show w.heap.size + 1 + 1 + 1 ≤ W0.heap.size by rw [← hW0, World.size_alloc, sZ]; exact Nat.le_refl _)
  have pA : P9 WA w.heap.size 2 bo sg rd (.slice ax nx cx) (.slice ay ny cy) fl wd ht := by rw [← hWA]; exact P9.new w 27 _ _ _ _ _ _ _ _ _
  have pZ : P9 WZ (w.heap.size + 1) 0 0 0 0 (.slice none 0 0) (.slice none 0 0) 0 0 0 ∧ F9 WZ (w.heap.size + 1) := by rw [← sA, ← hWZ]; exact ⟨P9.new WA 27 _ _ _ _ _ _ _ _ _, F9.new _ _ _⟩
  have pC : P9 W0 (w.heap.size + 1 + 1) 2 bo 0 0 (.slice none 0 0) (.slice none 0 0) 0 0 0 ∧ F9 W0 (w.heap.size + 1 + 1) := by rw [← sZ, ← hW0]; exact ⟨P9.new WZ 27 _ _ _ _ _ _ _ _ _, F9.new _ _ _⟩
  have bA : Below WA.heap.size WA W0 := by rw [← hW0, ← hWZ]; exact ba (below1 _ _) _
  have bZ : Below WZ.heap.size WZ W0 := by rw [← hW0]; exact below1 _ _
  have HB0 := hide (show Below w.heap.size w W0 by rw [← hW0, ← hWZ, ← hWA]; exact ba (ba (below1 _ _) _) _)
  have HAll := hide (fun (w' : World) (b : Below W0.heap.size W0 w') => show P9 w' w.heap.size 2 bo sg rd (.slice ax nx cx) (.slice ay ny cy) fl wd ht ∧ (P9 w' (w.heap.size + 1) 0 0 0 0 (.slice none 0 0) (.slice none 0 0) 0 0 0 ∧ F9 w' (w.heap.size + 1)) ∧ P9 w' (w.heap.size + 1 + 1) 2 bo 0 0 (.slice none 0 0) (.slice none 0 0) 0 0 0 ∧ F9 w' (w.heap.size + 1 + 1) from
    ⟨(pA.below bA).below b, ⟨(pZ.1.below bZ).below b, (pZ.2.below bZ).below b⟩, pC.1.below b, pC.2.below b⟩)
  simp only [hWA]
  simp only [hWZ]
  simp only [hW0]
  clear hWA hWZ hW0 sA sZ pZ pC bZ
  obtain ⟨_, _, _, _, g4, g5, _, _, _⟩ := pA.below bA
  clear pA bA
  go_region_with (first
    | (go_at_call 14; (with_reducible refine (CX _ (bd HB0.out)).mono ?_); rintro e w2 ⟨⟨bx, dx, rfl, rx, zx⟩, b2⟩; have B2 := hide (bt (bd (Below.refl W0.heap.size W0)) b2); have RX := hide (And.intro (rx.mono (show w.heap.size + 1 + 1 + 1 ≤ W0.heap.size from HS0.out)) zx); obtain ⟨⟨_, _, _, _, y4, y5, _, _, _⟩, _⟩ := HAll.out _ B2.out; clear rx zx b2 CX g4 g5)
    | (go_at_call 14; (with_reducible refine (CY _ (bt HB0.out B2.out)).mono ?_); rintro e w4 ⟨⟨by_, dy, rfl, ry, zy⟩, b4⟩; have B4 := hide (bt B2.out b4); have R4 := hide (And.intro (RX.out.1.below b4) (And.intro (ry.mono (show w.heap.size + 1 + 1 + 1 ≤ w2.heap.size from Nat.le_trans HS0.out B2.out.size)) (And.intro RX.out.2 zy))); obtain ⟨_, ⟨⟨z0, z1, z2, z3, z4, z5, z6, z7, z8⟩, q0, q1, q2, q3, q4, q5, q6, q7, q8⟩, ⟨c0, c1, c2, c3, c4, c5, c6, c7, c8⟩, f0, f1, f2, f3, f4, f5, f6, f7, f8⟩ := HAll.out _ B4.out; clear ry zy b4 CY y4 y5))
  all_goals
    have BZ := hide (bt HB0.out B4.out)
    have HS := hide (show w.heap.size ≤ w.heap.size + 1 ∧ w.heap.size ≤ w.heap.size + 1 + 1 ∧ w.heap.size + 1 < w.heap.size + 1 + 1 + 1 ∧ w.heap.size + 1 + 1 < w.heap.size + 1 + 1 + 1 by omega)
    clear HAll HB0 HS0 RX
    go_wp2
    obtain ⟨rx, ry, zx, zy⟩ := R4.out
    obtain ⟨h1, h2, h3, h4⟩ := HS.out
    subst hnx hny
    exact bodyPost_ret (v := .agg #[.int .i64 2, .int .i64 bo, .int .i64 0, .int .i64 0, .slice bx xs.length dx, .slice by_ ys.length dy, .int .i64 0, .int .i64 0, .int .i64 0]) (by simp [results, Tryz.results6, go_sem, z0, z1, z2, z3, z4, z5, z6, z7, z8]) rfl
      ⟨⟨bx, dx, by_, dy, rfl, row_set11 rx h3 h4 _ _ _ _ _ _ _ _ _ _ _ _ _, row_set11 ry h3 h4 _ _ _ _ _ _ _ _ _ _ _ _ _, zx, zy⟩, below_set11 BZ.out h1 h2 _ _ _ _ _ _ _ _ _ _ _ _ _⟩
end Go.Proofs.YtlknopmpbkepjaaGreatDoor

/- Operations as texts: the program's Clean, of every kind; what the statements call the same. -/
namespace Go.Proofs.YtlknopmpbkepjaaGreatDoor
open Go.RowKit


set_option maxHeartbeats 4000000 in
set_option maxRecDepth 100000 in
theorem clean_any (o : Opr) (ax : Option Addr) (cx : Nat) (ay : Option Addr) (cy : Nat) (w : World) (hA : OpAt w o ax cx ay cy) (l1 : o.xs.length ≤ 1000000) (l2 : o.ys.length ≤ 1000000) :
    Calls Tryz.prog 6 #[opV o ax cx ay cy] w fun e w' => (∃ bx dx by_ dy, e = .returned (opV (clnO o) bx dx by_ dy) ∧ OpAt w' (clnO o) bx dx by_ dy) ∧ Below w.heap.size w w' := by
  by_cases k2 : o.kd = 2
  · exact clean_two o ax cx ay cy w hA l1 l2 k2
  unfold opV clnO
  obtain ⟨kd, bo, sg, rd, xs, ys, fl, wd, ht⟩ := o
  simp only at *
  clear hA l1 l2
  generalize xs.length = nx at *
  generalize ys.length = ny at *
  rcases kind_of kd with rfl | rfl | rfl | rfl | ⟨h0, h1, h2, h3⟩
  · simp only [Int.reduceEq, if_true, if_false]
    go_enter Tryz.func6, Tryz.ntmps6
    go_wp2
    exact bodyPost_ret (v := .agg #[.int .i64 0, .int .i64 bo, .int .i64 sg, .int .i64 0, .slice none 0 0, .slice none 0 0, .int .i64 0, .int .i64 0, .int .i64 0]) (by simp [results, Tryz.results6, go_sem]) rfl ⟨⟨none, 0, none, 0, rfl, ⟨.inl rfl, .inl rfl, fun _ => rfl, fun _ => rfl⟩⟩, by repeat (first | exact Below.refl _ _ | with_reducible refine ba ?_ _)⟩
  · simp only [Int.reduceEq, if_true, if_false]
    go_enter Tryz.func6, Tryz.ntmps6
    go_wp2
    exact bodyPost_ret (v := .agg #[.int .i64 1, .int .i64 bo, .int .i64 0, .int .i64 rd, .slice none 0 0, .slice none 0 0, .int .i64 0, .int .i64 0, .int .i64 0]) (by simp [results, Tryz.results6, go_sem]) rfl ⟨⟨none, 0, none, 0, rfl, ⟨.inl rfl, .inl rfl, fun _ => rfl, fun _ => rfl⟩⟩, by repeat (first | exact Below.refl _ _ | with_reducible refine ba ?_ _)⟩
  · exact absurd rfl k2
  · simp only [Int.reduceEq, if_true, if_false]
    go_enter Tryz.func6, Tryz.ntmps6
    go_upto_region 10 with fail
    go_region
    all_goals
      go_wp2
      exact bodyPost_ret (v := .agg #[.int .i64 3, .int .i64 bo, .int .i64 0, .int .i64 0, .slice none 0 0, .slice none 0 0, .int .i64 fl, .int .i64 wd, .int .i64 ht]) (by simp [results, Tryz.results6, go_sem]) rfl ⟨⟨none, 0, none, 0, rfl, ⟨.inl rfl, .inl rfl, fun _ => rfl, fun _ => rfl⟩⟩, by repeat (first | exact Below.refl _ _ | with_reducible refine ba ?_ _ | with_reducible refine bdN ?_ _ | with_reducible refine bd ?_)⟩
  · simp only [if_neg h0, if_neg h1, if_neg h2, if_neg h3]
    have e0 : (kd == 0) = false := beq_eq_false_iff_ne.2 h0
    have e1 : (kd == 1) = false := beq_eq_false_iff_ne.2 h1
    have e2 : (kd == 2) = false := beq_eq_false_iff_ne.2 h2
    have e3 : (kd == 3) = false := beq_eq_false_iff_ne.2 h3
    clear h0 h1 h2 h3 k2
    go_enter Tryz.func6, Tryz.ntmps6
    go_wp2
    exact bodyPost_ret (v := .agg #[.int .i64 kd, .int .i64 bo, .int .i64 0, .int .i64 0, .slice none 0 0, .slice none 0 0, .int .i64 0, .int .i64 0, .int .i64 0]) (by simp [results, Tryz.results6, go_sem]) rfl ⟨⟨none, 0, none, 0, rfl, ⟨.inl rfl, .inl rfl, fun _ => rfl, fun _ => rfl⟩⟩, by repeat (first | exact Below.refl _ _ | with_reducible refine ba ?_ _)⟩
set_option maxHeartbeats 4000000 in
set_option maxRecDepth 100000 in
/-- The same operation, twice in memory. -/
theorem same13_any (o : Opr) (ax : Option Addr) (cx : Nat) (ay : Option Addr) (cy : Nat) (bx : Option Addr) (dx : Nat) (by_ : Option Addr) (dy : Nat) (w : World) (hA : OpAt w o ax cx ay cy) (hB : OpAt w o bx dx by_ dy) (l1 : o.xs.length ≤ 1000000) (l2 : o.ys.length ≤ 1000000) :
    Calls Tryz.prog 8 #[opV o ax cx ay cy, opV o bx dx by_ dy] w fun e w' => e = .returned (.bool true) ∧ Below w.heap.size w w' := by
  have CX := fun w' (b : Below w.heap.size w w') => same_n o.xs.length o.xs rfl ax bx cx dx w' (hA.1.below b) (hB.1.below b) (by omega)
  have CY := fun w' (b : Below w.heap.size w w') => same_n o.ys.length o.ys rfl ay by_ cy dy w' (hA.2.1.below b) (hB.2.1.below b) (by omega)
  clear hA hB
  unfold opV
  obtain ⟨kd, bo, sg, rd, xs, ys, fl, wd, ht⟩ := o
  simp only at *
  generalize xs.length = nx at *
  generalize ys.length = ny at *
  have HA := hide (P9.new w 27 kd bo sg rd (.slice ax nx cx) (.slice ay ny cy) fl wd ht)
  have HC := hide (P9.new (w.alloc (.cells #[.int .i64 kd, .int .i64 bo, .int .i64 sg, .int .i64 rd, .slice ax nx cx, .slice ay ny cy, .int .i64 fl, .int .i64 wd, .int .i64 ht] 27)) 40 kd bo sg rd (.slice bx nx dx) (.slice by_ ny dy) fl wd ht)
  rw [World.size_alloc] at HC
  go_enter Tryz.func8, Tryz.ntmps8
  go_wp2_with (first
    | (go_at_call 20; (with_reducible refine (CX _ (ba (below1 _ _) _)).mono ?_); rintro e w3 ⟨rfl, b3⟩; obtain ⟨_, _, _, _, _, x5, _, _, _⟩ := (HA.out.below (below1 _ _)).below b3; obtain ⟨_, _, _, _, _, y5, _, _, _⟩ := HC.out.below b3; have B3 := hide (bt (ba (below1 _ _) _) b3); clear CX b3)
    | (go_at_call 20; (with_reducible refine (CY _ B3.out).mono ?_); rintro e w4 ⟨rfl, b4⟩; have B4 := hide (bt B3.out b4)))
  exact bodyPost_ret (v := .bool true) (by simp [results, Tryz.results8, go_sem]) rfl ⟨rfl, B4.out⟩
end Go.Proofs.YtlknopmpbkepjaaGreatDoor

/- The table of filters, out of what the row lists. -/
namespace Go.Proofs.YtlknopmpbkepjaaGreatDoor
open Go.ChangeShapes Go.WideShapes Go.ChangeAt Go.WideMaps Go.WideElems Go.RowKit

theorem gKinds : Tryz.prog.globalNamed "smalto/raw.kinds" = some 1 := by kernel_rfl
theorem tKinds : (Tryz.prog.globals[1]?).map (·.type) = some 68 := by kernel_rfl
theorem cellsKinds : Tryz.prog.cellsOf 68 = 6 := by kernel_rfl
theorem cellsKind : Tryz.prog.cellsOf 67 = 2 := by kernel_rfl
theorem cellsStrK : Tryz.prog.cellsOf 9 = 1 := by kernel_rfl
theorem cellsI64K : Tryz.prog.cellsOf 2 = 1 := by kernel_rfl
theorem string_of_bytes {s : ByteArray} {l : List UInt8} (h : s.data.toList = l) : s = ⟨l.toArray⟩ := by
  subst h; rfl
theorem kind_cells {H : Type} {enc : TypeId × Value → H} {w : World} {base : Nat} {sp : Nat → Bool} {held : Bool} {fuel : Nat} {a b : Value} {l : List UInt8} {n : Int} {y : DataW H × List MemPlace}
    (h : DataW.trod enc Tryz.prog w base sp held fuel 67 [a, b] = some y) (hy : y.1 = .agg [.lit (.string l), .lit (.int .i64 n)]) : a = .string ⟨l.toArray⟩ ∧ b = .int .i64 n := by
  obtain ⟨y0, y1, m, rfl, _, h0, h1⟩ := trod_struct2 Tryz.underlying67 h
  simp [cellsStrK, cellsI64K] at h0 h1 hy
  obtain ⟨s, e0, rfl, _⟩ := DataW.trod_string Tryz.underlying9 h0
  obtain ⟨k, e1, rfl, _⟩ := DataW.trod_int Tryz.underlying2 h1
  simp at e0 e1 hy
  obtain ⟨g0, rfl⟩ := hy
  exact ⟨by rw [e0, string_of_bytes g0], e1⟩
set_option maxRecDepth 100000 in
theorem kinds_cells {H : Type} {enc : TypeId × Value → H} {w : World} {base : Nat} {sp : Nat → Bool} {held : Bool} {fuel : Nat} {cs : Array Value} {p : List MemPlace}
    (h : DataW.trod enc Tryz.prog w base sp held fuel 68 cs.toList = some (Rows.laid_smalto_raw_kinds, p)) :
    cs = #[.string ⟨#[98, 111, 120]⟩, .int .i64 0, .string ⟨#[99, 117, 98, 105, 99]⟩, .int .i64 2, .string ⟨#[108, 97, 110, 99, 122, 111, 115]⟩, .int .i64 3] := by
  obtain ⟨l⟩ := cs
  obtain ⟨xs, m, rfl, hx, hl, hn, he⟩ := DataW.trod_array Tryz.underlying68 h
  rw [cellsKinds] at hl
  rw [cellsKind] at he
  obtain ⟨c0, c1, c2, c3, c4, c5, rfl⟩ : ∃ c0 c1 c2 c3 c4 c5, l = [c0, c1, c2, c3, c4, c5] := by
    match l, hl with
    | [a, b, c, d, e, f], _ => exact ⟨a, b, c, d, e, f, rfl⟩
  obtain ⟨y0, y1, y2, rfl⟩ : ∃ y0 y1 y2, xs = [y0, y1, y2] := by
    match xs, hn with
    | [a, b, c], _ => exact ⟨a, b, c, rfl⟩
  have h0 := he 0 (by omega)
  have h1 := he 1 (by omega)
  have h2 := he 2 (by omega)
  simp at h0 h1 h2
  simp [Rows.laid_smalto_raw_kinds] at hx
  obtain ⟨⟨g0, g1, g2⟩, _⟩ := hx
  obtain ⟨rfl, rfl⟩ := kind_cells h0 g0.symm
  obtain ⟨rfl, rfl⟩ := kind_cells h1 g1.symm
  obtain ⟨rfl, rfl⟩ := kind_cells h2 g2.symm
  rfl
end Go.Proofs.YtlknopmpbkepjaaGreatDoor

/- Operations as texts: the law on rows that are joined. -/
namespace Go.Proofs.YtlknopmpbkepjaaGreatDoor
open Go.RowKit

theorem fit_of {o : Opr} (h : OpFits o) : FitW o := by
  refine ⟨fun x hx => ?_, fun x hx => ?_, fun x hx => ?_⟩
  · simp only [List.mem_cons, List.not_mem_nil, or_false] at hx
    rcases hx with rfl | rfl | rfl | rfl | rfl
    · exact h.sg
    · exact h.rd
    · exact h.fl
    · exact h.wd
    · exact h.ht
  · obtain ⟨j, hj, rfl⟩ := List.getElem_of_mem hx
    have := h.xs.all j hj
    rwa [List.getD_eq_getElem?_getD, List.getElem?_eq_getElem hj] at this
  · obtain ⟨j, hj, rfl⟩ := List.getElem_of_mem hx
    have := h.ys.all j hj
    rwa [List.getD_eq_getElem?_getD, List.getElem?_eq_getElem hj] at this
end Go.Proofs.YtlknopmpbkepjaaGreatDoor

/- Operations as texts: the tables out of what the rows list; the law on signs, of memory that holds these. -/
namespace Go.Proofs.YtlknopmpbkepjaaGreatDoor
open Go.ChangeShapes Go.WideShapes Go.ChangeAt Go.WideMaps Go.WideElems Go.RowKit


theorem gPow13 : Tryz.prog.globalNamed "internal/strconv.uint64pow10" = some 2 := by kernel_rfl
theorem tPow13 : (Tryz.prog.globals[2]?).map (·.type) = some 122 := by kernel_rfl
theorem powData13 {H : Type} : (Rows.laid_internal_strconv_uint64pow10 : DataW H) = Go.Lib.tabData .u64 Go.Lib.pow10Tab := rfl
def dLaid13 {H : Type} : List (String × DataW H) := [("math/bits.deBruijn32tab", Rows.laid_math_bits_deBruijn32tab), ("math/bits.deBruijn64tab", Rows.laid_math_bits_deBruijn64tab), ("internal/strconv.uint64pow10", Rows.laid_internal_strconv_uint64pow10), ("smalto/border.names", Rows.laid_smalto_border_names), ("smalto/raw.kinds", Rows.laid_smalto_raw_kinds)]
theorem door_met13 (os : Os) (args : Array Value) : laidMetH Tryz.prog dLaid13 ((World.doorLaid Tryz.prog 400 os).forCall (fun _ _ => 0) ⟨#[], args, []⟩).memory :=
  laidMetH_of_parts3 (fuel := 8) (laidMet_of_run' 8 (by kernel_rfl) (by kernel_rfl)) (by kernel_rfl) (by kernel_rfl)
theorem kw_of_laid {W : World} (h : laidMetH Tryz.prog dLaid13 W) : KW W := by
  rw [MakeChecks.laidMetH_plain _ _ _ (by kernel_rfl)] at h
  obtain ⟨ps, ⟨g0, t0, cs0, f0, p0, q0, hg0, ht0, hv0, hd0, ⟨g1, t1, cs1, f1, p1, q1, hg1, ht1, hv1, hd1, ⟨g2, t2, cs2, f2, p2, q2, hg2, ht2, hv2, hd2, ⟨g3, t3, cs3, f3, p3, q3, hg3, ht3, hv3, hd3, ⟨g4, t4, cs4, f4, p4, q4, hg4, ht4, hv4, hd4, _, _⟩, _⟩, _⟩, _⟩, _⟩, _, _⟩ := h
  obtain rfl := Option.some.inj (gPow13.symm.trans hg2)
  obtain rfl := Option.some.inj (tPow13.symm.trans ht2)
  rw [powData13] at hd2
  have e := Go.Lib.cells_of_tab (n := 20) Tryz.underlying122 Tryz.underlying95 (by kernel_rfl) (by kernel_rfl) hd2
  obtain rfl := Option.some.inj (gNamesE.symm.trans hg3)
  obtain rfl := Option.some.inj (tNamesE.symm.trans ht3)
  obtain rfl := names_cells hd3
  obtain rfl := Option.some.inj (gKinds.symm.trans hg4)
  obtain rfl := Option.some.inj (tKinds.symm.trans ht4)
  obtain rfl := kinds_cells hd4
  refine ⟨?_, ⟨World.var?_cell hg4 hv4 0, World.var?_cell hg4 hv4 1, World.var?_cell hg4 hv4 2, World.var?_cell hg4 hv4 3, World.var?_cell hg4 hv4 4, World.var?_cell hg4 hv4 5⟩, World.var?_cell hg3 hv3 0, World.var?_cell hg3 hv3 1, World.var?_cell hg3 hv3 2⟩
  unfold Pow10 Go.Lib.TabIs
  rw [hv2, ← e]
def OpsBoth13 (w : World) (ad : Option Addr) (L : List Opr) : Prop := OpsAt w ad L ∧ OpsFit L
end Go.Proofs.YtlknopmpbkepjaaGreatDoor

/- Operations: the program's own small calls: which kinds there are, sides, names, sizes. -/
namespace Go.Proofs.YtlknopmpbkepjaaGreatDoor
open Go.RowKit


theorem oknown_yes (k : Int) (h0 : 0 ≤ k) (h1 : k ≤ 3) (w : World) :
    Calls Tryz.prog 15 #[.int .i64 k] w fun e w' => e = .returned (.bool true) ∧ w = w' := by
  go_enter Tryz.func15, Tryz.ntmps15
  go_wp2
  go_ret
  first | exact ⟨rfl, rfl⟩ | exact ⟨ret_bool (decide_eq_true (by omega)), rfl⟩
theorem oknown_no (k : Int) (h : k < 0 ∨ 3 < k) (w : World) :
    Calls Tryz.prog 15 #[.int .i64 k] w fun e w' => e = .returned (.bool false) ∧ w = w' := by
  rcases h with h | h
  all_goals
    go_enter Tryz.func15, Tryz.ntmps15
    go_wp2
    go_ret
    first | exact ⟨rfl, rfl⟩ | exact ⟨ret_bool (decide_eq_false (by omega)), rfl⟩
theorem oside_yes (n : Int) (h0 : 1 ≤ n) (h1 : n ≤ 65536) (w : World) :
    Calls Tryz.prog 17 #[.int .i64 n] w fun e w' => e = .returned (.bool true) ∧ w = w' := by
  go_enter Tryz.func17, Tryz.ntmps17
  go_wp2
  go_ret
  first | exact ⟨rfl, rfl⟩ | exact ⟨ret_bool (decide_eq_true (by omega)), rfl⟩
theorem oside_no (n : Int) (h : n < 1 ∨ 65536 < n) (w : World) :
    Calls Tryz.prog 17 #[.int .i64 n] w fun e w' => e = .returned (.bool false) ∧ w = w' := by
  rcases h with h | h
  all_goals
    go_enter Tryz.func17, Tryz.ntmps17
    go_wp2
    go_ret
    first | exact ⟨rfl, rfl⟩ | exact ⟨ret_bool (decide_eq_false (by omega)), rfl⟩
theorem nameE_some (p : Int) (p0 : 0 ≤ p) (p1 : p ≤ 2) : ∃ s, nameE p = .string s ∧ s.toList.isEmpty = false := by
  unfold nameE
  by_cases h0 : p = 0
  · rw [if_pos h0]; exact ⟨_, rfl, by decide +kernel⟩
  by_cases h1 : p = 1
  · rw [if_neg h0, if_pos h1]; exact ⟨_, rfl, by decide +kernel⟩
  · rw [if_neg h0, if_neg h1, if_pos (by omega)]; exact ⟨_, rfl, by decide +kernel⟩
theorem nameE_none (p : Int) (h : p < 0 ∨ 2 < p) : nameE p = .string ⟨#[]⟩ := by
  unfold nameE
  rw [if_neg (by omega), if_neg (by omega), if_neg (by omega)]
end Go.Proofs.YtlknopmpbkepjaaGreatDoor

/- Operations: what the program's calls are to answer; the example; the law on one operation. -/
namespace Go.Proofs.YtlknopmpbkepjaaGreatDoor
open Go.RowKit


/-- What Make answers. -/
def MakeAns (e : Ending) (w' : World) (k : Int) (S : Stg) : Prop :=
  (k ≠ 0 ∧ e = .returned (.tuple #[.agg #[.pointer none, .pointer none, .int .i64 0], .int .i64 k])) ∨ (k = 0 ∧ ∃ x y, e = .returned (.tuple #[.agg #[x, y, .int .i64 S.sb], .int .i64 0]) ∧ Tab w' x S.fx S.lx ∧ Tab w' y S.fy S.ly)
def OMakeC (K : World → Prop) : Prop := ∀ (o : Opr) (ax : Option Addr) (cx : Nat) (ay : Option Addr) (cy : Nat) (a b : Int) (w : World), K w → OpAt w o ax cx ay cy → OpFits o → In64 a → In64 b →
  Calls Tryz.prog 7 #[opV o ax cx ay cy, .int .i64 a, .int .i64 b] w fun e w' => MakeAns e w' (opCode o a b) (stgOf o a b) ∧ Below w.heap.size w w'
end Go.Proofs.YtlknopmpbkepjaaGreatDoor
