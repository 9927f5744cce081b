/- Parts, joined. -/
import Derived.Test.YtdpkigdfhfippaaGreatDoorJ30
import Derived.Test.YtdpkigdfhfippaaGreatDoorJ25
import Derived.Deep.RegionHeld3
import Derived.BigQuiet
/- Operations: the document's Make: what may not be. -/
namespace Go.Proofs.YtdpkigdfhfippaaGreatDoor
open Go.RowKit


/-- Five cells of a block, that may be written. -/
def S5 (w : World) (R : Nat) (v0 v1 v2 v3 v4 : Value) : Prop :=
  (w.cell? ⟨R, 0, none⟩ = some v0 ∧ w.frozen? ⟨R, 0, none⟩ = false) ∧ (w.cell? ⟨R, 1, none⟩ = some v1 ∧ w.frozen? ⟨R, 1, none⟩ = false) ∧ (w.cell? ⟨R, 2, none⟩ = some v2 ∧ w.frozen? ⟨R, 2, none⟩ = false) ∧
  (w.cell? ⟨R, 3, none⟩ = some v3 ∧ w.frozen? ⟨R, 3, none⟩ = false) ∧ (w.cell? ⟨R, 4, none⟩ = some v4 ∧ w.frozen? ⟨R, 4, none⟩ = false)
theorem S5.grown {w w' : World} {R : Nat} {v0 v1 v2 v3 v4 : Value} {row : Option Nat} (h : S5 w R v0 v1 v2 v3 v4) (g : w.grownBy w' row) (ne : some R ≠ row) : S5 w' R v0 v1 v2 v3 v4 := by
  obtain ⟨⟨a, a'⟩, ⟨b, b'⟩, ⟨c, c'⟩, ⟨d, d'⟩, ⟨e, e'⟩⟩ := h
  exact ⟨⟨cg g ne a, fg g ne a a'⟩, ⟨cg g ne b, fg g ne b b'⟩, ⟨cg g ne c, fg g ne c c'⟩, ⟨cg g ne d, fg g ne d d'⟩, ⟨cg g ne e, fg g ne e e'⟩⟩
theorem S5.below {w w' : World} {R : Nat} {v0 v1 v2 v3 v4 : Value} (h : S5 w R v0 v1 v2 v3 v4) (b : Below w.heap.size w w') : S5 w' R v0 v1 v2 v3 v4 := h.grown (grown_below b none) (by simp)
theorem S5.new (w : World) (T : TypeId) (v0 v1 v2 v3 v4 : Value) : S5 (w.alloc (.cells #[v0, v1, v2, v3, v4] T)) w.heap.size v0 v1 v2 v3 v4 := by
  unfold S5
  simp
theorem S5.set0 {w : World} {R : Nat} {v0 v1 v2 v3 v4 : Value} (h : S5 w R v0 v1 v2 v3 v4) (u : Value) : S5 (w.setCell ⟨R, 0, none⟩ u) R u v1 v2 v3 v4 := by
  obtain ⟨⟨a, a'⟩, ⟨b, b'⟩, ⟨c, c'⟩, ⟨d, d'⟩, ⟨e, e'⟩⟩ := h
  unfold S5
  simp only [World.frozen?_setCell]
  refine ⟨⟨World.cell?_setCell_same' _ _ _ (by rw [a]; rfl), a'⟩, ⟨?_, b'⟩, ⟨?_, c'⟩, ⟨?_, d'⟩, ⟨?_, e'⟩⟩ <;> rw [World.cell?_setCell_other _ _ _ _ (by intro x; simp at x)] <;> assumption
theorem S5.set1 {w : World} {R : Nat} {v0 v1 v2 v3 v4 : Value} (h : S5 w R v0 v1 v2 v3 v4) (u : Value) : S5 (w.setCell ⟨R, 1, none⟩ u) R v0 u v2 v3 v4 := by
  obtain ⟨⟨a, a'⟩, ⟨b, b'⟩, ⟨c, c'⟩, ⟨d, d'⟩, ⟨e, e'⟩⟩ := h
  unfold S5
  simp only [World.frozen?_setCell]
  refine ⟨⟨?_, a'⟩, ⟨World.cell?_setCell_same' _ _ _ (by rw [b]; rfl), b'⟩, ⟨?_, c'⟩, ⟨?_, d'⟩, ⟨?_, e'⟩⟩ <;> rw [World.cell?_setCell_other _ _ _ _ (by intro x; simp at x)] <;> assumption
theorem S5.set2 {w : World} {R : Nat} {v0 v1 v2 v3 v4 : Value} (h : S5 w R v0 v1 v2 v3 v4) (u : Value) : S5 (w.setCell ⟨R, 2, none⟩ u) R v0 v1 u v3 v4 := by
  obtain ⟨⟨a, a'⟩, ⟨b, b'⟩, ⟨c, c'⟩, ⟨d, d'⟩, ⟨e, e'⟩⟩ := h
  unfold S5
  simp only [World.frozen?_setCell]
  refine ⟨⟨?_, a'⟩, ⟨?_, b'⟩, ⟨World.cell?_setCell_same' _ _ _ (by rw [c]; rfl), c'⟩, ⟨?_, d'⟩, ⟨?_, e'⟩⟩ <;> rw [World.cell?_setCell_other _ _ _ _ (by intro x; simp at x)] <;> assumption
theorem S5.set3 {w : World} {R : Nat} {v0 v1 v2 v3 v4 : Value} (h : S5 w R v0 v1 v2 v3 v4) (u : Value) : S5 (w.setCell ⟨R, 3, none⟩ u) R v0 v1 v2 u v4 := by
  obtain ⟨⟨a, a'⟩, ⟨b, b'⟩, ⟨c, c'⟩, ⟨d, d'⟩, ⟨e, e'⟩⟩ := h
  unfold S5
  simp only [World.frozen?_setCell]
  refine ⟨⟨?_, a'⟩, ⟨?_, b'⟩, ⟨?_, c'⟩, ⟨World.cell?_setCell_same' _ _ _ (by rw [d]; rfl), d'⟩, ⟨?_, e'⟩⟩ <;> rw [World.cell?_setCell_other _ _ _ _ (by intro x; simp at x)] <;> assumption
theorem S5.set4 {w : World} {R : Nat} {v0 v1 v2 v3 v4 : Value} (h : S5 w R v0 v1 v2 v3 v4) (u : Value) : S5 (w.setCell ⟨R, 4, none⟩ u) R v0 v1 v2 v3 u := by
  obtain ⟨⟨a, a'⟩, ⟨b, b'⟩, ⟨c, c'⟩, ⟨d, d'⟩, ⟨e, e'⟩⟩ := h
  unfold S5
  simp only [World.frozen?_setCell]
  refine ⟨⟨?_, a'⟩, ⟨?_, b'⟩, ⟨?_, c'⟩, ⟨?_, d'⟩, ⟨World.cell?_setCell_same' _ _ _ (by rw [e]; rfl), e'⟩⟩ <;> rw [World.cell?_setCell_other _ _ _ _ (by intro x; simp at x)] <;> assumption
/-- All five are written. -/
theorem S5.fill {w : World} {R : Nat} {u0 u1 u2 u3 u4 : Value} (h : S5 w R u0 u1 u2 u3 u4) (v0 v1 v2 v3 v4 : Value) : S5 (((((w.setCell ⟨R, 0, none⟩ v0).setCell ⟨R, 1, none⟩ v1).setCell ⟨R, 2, none⟩ v2).setCell ⟨R, 3, none⟩ v3).setCell ⟨R, 4, none⟩ v4) R v0 v1 v2 v3 v4 :=
  ((((h.set0 v0).set1 v1).set2 v2).set3 v3).set4 v4
theorem below_fill {a w : World} {R : Nat} (h : Below a.heap.size a w) (hR : a.heap.size ≤ R) (v0 v1 v2 v3 v4 : Value) : Below a.heap.size a (((((w.setCell ⟨R, 0, none⟩ v0).setCell ⟨R, 1, none⟩ v1).setCell ⟨R, 2, none⟩ v2).setCell ⟨R, 3, none⟩ v3).setCell ⟨R, 4, none⟩ v4) :=
  bs (bs (bs (bs (bs h hR _) hR _) hR _) hR _) hR _
def s0V : Value := .agg #[.slice none 0 0, .slice none 0 0, .int .i64 0, .int .i64 0, .int .i64 0]
set_option maxHeartbeats 4000000 in
set_option maxRecDepth 100000 in
theorem dmake_bad (o : Opr) (ax : Option Addr) (cx : Nat) (ay : Option Addr) (cy : Nat) (a b : Int) (w : World) (h : okO o a b = false) :
    Calls Tryz.prog 25 #[opV o ax cx ay cy, .int .i64 a, .int .i64 b] w fun e w' => e = .returned (.tuple #[s0V, .int .i64 6]) ∧ Below w.heap.size w w' := by
  have hn : ¬ ((0 ≤ o.kd ∧ o.kd ≤ 3) ∧ (0 ≤ o.bd ∧ o.bd ≤ 2) ∧ (1 ≤ a ∧ a ≤ 65536) ∧ (1 ≤ b ∧ b ≤ 65536) ∧ (o.kd = 3 → (1 ≤ o.wd ∧ o.wd ≤ 65536) ∧ (1 ≤ o.ht ∧ o.ht ≤ 65536) ∧ 0 ≤ o.fl ∧ o.fl ≤ 2)) := fun g => Bool.false_ne_true (h.symm.trans ((okO_iff o a b).2 g))
  unfold opV s0V
  obtain ⟨kd, bd, sg, rd, xs, ys, fl, wd, ht⟩ := o
  simp only at hn ⊢
  clear h
  generalize xs.length = nx at *
  generalize ys.length = ny at *
  by_cases a1 : kd < 0
  · clear hn
    go_enter Tryz.func25, Tryz.ntmps25
    go_wp2
    exact bodyPost_ret (v := .tuple #[.agg #[.slice none 0 0, .slice none 0 0, .int .i64 0, .int .i64 0, .int .i64 0], .int .i64 6]) (by simp [results, Tryz.results25, go_sem]) rfl ⟨rfl, by repeat (first | exact Below.refl _ _ | with_reducible refine ba ?_ _)⟩
  by_cases a2 : 3 < kd
  · clear hn
    go_enter Tryz.func25, Tryz.ntmps25
    go_wp2
    exact bodyPost_ret (v := .tuple #[.agg #[.slice none 0 0, .slice none 0 0, .int .i64 0, .int .i64 0, .int .i64 0], .int .i64 6]) (by simp [results, Tryz.results25, go_sem]) rfl ⟨rfl, by repeat (first | exact Below.refl _ _ | with_reducible refine ba ?_ _)⟩
  by_cases a3 : bd < 0
  · clear hn
    go_enter Tryz.func25, Tryz.ntmps25
    go_wp2
    exact bodyPost_ret (v := .tuple #[.agg #[.slice none 0 0, .slice none 0 0, .int .i64 0, .int .i64 0, .int .i64 0], .int .i64 6]) (by simp [results, Tryz.results25, go_sem]) rfl ⟨rfl, by repeat (first | exact Below.refl _ _ | with_reducible refine ba ?_ _)⟩
  by_cases a4 : 2 < bd
  · clear hn
    go_enter Tryz.func25, Tryz.ntmps25
    go_wp2
    exact bodyPost_ret (v := .tuple #[.agg #[.slice none 0 0, .slice none 0 0, .int .i64 0, .int .i64 0, .int .i64 0], .int .i64 6]) (by simp [results, Tryz.results25, go_sem]) rfl ⟨rfl, by repeat (first | exact Below.refl _ _ | with_reducible refine ba ?_ _)⟩
  by_cases a5 : 1 ≤ a ∧ a ≤ 65536
  case neg =>
    have S1 := dside12_no a (by omega)
    clear hn a5
    go_enter Tryz.func25, Tryz.ntmps25
    go_wp2_with (first
      | (go_at_call 41; (with_reducible refine (S1 _).mono ?_); rintro e w1 ⟨rfl, rfl⟩))
    exact bodyPost_ret (v := .tuple #[.agg #[.slice none 0 0, .slice none 0 0, .int .i64 0, .int .i64 0, .int .i64 0], .int .i64 6]) (by simp [results, Tryz.results25, go_sem]) rfl ⟨rfl, by repeat (first | exact Below.refl _ _ | with_reducible refine ba ?_ _)⟩
  have S1 := dside12_yes a a5.1 a5.2
  by_cases a6 : 1 ≤ b ∧ b ≤ 65536
  case neg =>
    have S2 := dside12_no b (by omega)
    clear hn a5 a6
    go_enter Tryz.func25, Tryz.ntmps25
    go_wp2_with (first
      | (go_at_call 41; (with_reducible refine (S1 _).mono ?_); rintro e w1 ⟨rfl, rfl⟩)
      | (go_at_call 41; (with_reducible refine (S2 _).mono ?_); rintro e w1 ⟨rfl, rfl⟩))
    exact bodyPost_ret (v := .tuple #[.agg #[.slice none 0 0, .slice none 0 0, .int .i64 0, .int .i64 0, .int .i64 0], .int .i64 6]) (by simp [results, Tryz.results25, go_sem]) rfl ⟨rfl, by repeat (first | exact Below.refl _ _ | with_reducible refine ba ?_ _)⟩
  have S2 := dside12_yes b a6.1 a6.2
  have k3 : kd = 3 := by
    by_cases k : kd = 3
    · exact k
    · exact absurd ⟨⟨by omega, by omega⟩, ⟨by omega, by omega⟩, a5, a6, fun e => absurd e k⟩ hn
  subst k3
  by_cases a7 : 1 ≤ wd ∧ wd ≤ 65536
  case neg =>
    have S3 := dside12_no wd (by omega)
    clear hn a5 a6 a7
    go_enter Tryz.func25, Tryz.ntmps25
    go_wp2_with (first
      | (go_at_call 41; (with_reducible refine (S1 _).mono ?_); rintro e w1 ⟨rfl, rfl⟩)
      | (go_at_call 41; (with_reducible refine (S2 _).mono ?_); rintro e w1 ⟨rfl, rfl⟩)
      | (go_at_call 41; (with_reducible refine (S3 _).mono ?_); rintro e w1 ⟨rfl, rfl⟩))
    exact bodyPost_ret (v := .tuple #[.agg #[.slice none 0 0, .slice none 0 0, .int .i64 0, .int .i64 0, .int .i64 0], .int .i64 6]) (by simp [results, Tryz.results25, go_sem]) rfl ⟨rfl, by repeat (first | exact Below.refl _ _ | with_reducible refine ba ?_ _)⟩
  have S3 := dside12_yes wd a7.1 a7.2
  by_cases a8 : 1 ≤ ht ∧ ht ≤ 65536
  case neg =>
    have S4 := dside12_no ht (by omega)
    clear hn a5 a6 a7 a8
    go_enter Tryz.func25, Tryz.ntmps25
    go_wp2_with (first
      | (go_at_call 41; (with_reducible refine (S1 _).mono ?_); rintro e w1 ⟨rfl, rfl⟩)
      | (go_at_call 41; (with_reducible refine (S2 _).mono ?_); rintro e w1 ⟨rfl, rfl⟩)
      | (go_at_call 41; (with_reducible refine (S3 _).mono ?_); rintro e w1 ⟨rfl, rfl⟩)
      | (go_at_call 41; (with_reducible refine (S4 _).mono ?_); rintro e w1 ⟨rfl, rfl⟩))
    exact bodyPost_ret (v := .tuple #[.agg #[.slice none 0 0, .slice none 0 0, .int .i64 0, .int .i64 0, .int .i64 0], .int .i64 6]) (by simp [results, Tryz.results25, go_sem]) rfl ⟨rfl, by repeat (first | exact Below.refl _ _ | with_reducible refine ba ?_ _)⟩
  have S4 := dside12_yes ht a8.1 a8.2
  by_cases a9 : fl < 0
  · clear hn a5 a6 a7 a8
    go_enter Tryz.func25, Tryz.ntmps25
    go_wp2_with (first
      | (go_at_call 41; (with_reducible refine (S1 _).mono ?_); rintro e w1 ⟨rfl, rfl⟩)
      | (go_at_call 41; (with_reducible refine (S2 _).mono ?_); rintro e w1 ⟨rfl, rfl⟩)
      | (go_at_call 41; (with_reducible refine (S3 _).mono ?_); rintro e w1 ⟨rfl, rfl⟩)
      | (go_at_call 41; (with_reducible refine (S4 _).mono ?_); rintro e w1 ⟨rfl, rfl⟩))
    exact bodyPost_ret (v := .tuple #[.agg #[.slice none 0 0, .slice none 0 0, .int .i64 0, .int .i64 0, .int .i64 0], .int .i64 6]) (by simp [results, Tryz.results25, go_sem]) rfl ⟨rfl, by repeat (first | exact Below.refl _ _ | with_reducible refine ba ?_ _)⟩
  have aa : 2 < fl := by
    by_cases k : 2 < fl
    · exact k
    · exact absurd ⟨⟨by omega, by omega⟩, ⟨by omega, by omega⟩, a5, a6, fun _ => ⟨a7, a8, by omega, by omega⟩⟩ hn
  clear hn a5 a6 a7 a8
  go_enter Tryz.func25, Tryz.ntmps25
  go_wp2_with (first
    | (go_at_call 41; (with_reducible refine (S1 _).mono ?_); rintro e w1 ⟨rfl, rfl⟩)
    | (go_at_call 41; (with_reducible refine (S2 _).mono ?_); rintro e w1 ⟨rfl, rfl⟩)
    | (go_at_call 41; (with_reducible refine (S3 _).mono ?_); rintro e w1 ⟨rfl, rfl⟩)
    | (go_at_call 41; (with_reducible refine (S4 _).mono ?_); rintro e w1 ⟨rfl, rfl⟩))
  exact bodyPost_ret (v := .tuple #[.agg #[.slice none 0 0, .slice none 0 0, .int .i64 0, .int .i64 0, .int .i64 0], .int .i64 6]) (by simp [results, Tryz.results25, go_sem]) rfl ⟨rfl, by repeat (first | exact Below.refl _ _ | with_reducible refine ba ?_ _)⟩
end Go.Proofs.YtdpkigdfhfippaaGreatDoor

/- Blocks of nine cells, and of three. -/
namespace Go.Proofs.YtdpkigdfhfippaaGreatDoor
open Go.RowKit


/-- The nine cells of an operation at the head of a block. -/
def P9 (w : World) (b : Nat) (k d s r : Int) (x y : Value) (f a h : Int) : Prop :=
  w.cell? ⟨b, 0, none⟩ = some (.int .i64 k) ∧ w.cell? ⟨b, 1, none⟩ = some (.int .i64 d) ∧ w.cell? ⟨b, 2, none⟩ = some (.int .i64 s) ∧ w.cell? ⟨b, 3, none⟩ = some (.int .i64 r) ∧ w.cell? ⟨b, 4, none⟩ = some x ∧ w.cell? ⟨b, 5, none⟩ = some y ∧
  w.cell? ⟨b, 6, none⟩ = some (.int .i64 f) ∧ w.cell? ⟨b, 7, none⟩ = some (.int .i64 a) ∧ w.cell? ⟨b, 8, none⟩ = some (.int .i64 h)
theorem P9.below {w w' : World} {b : Nat} {k d s r : Int} {x y : Value} {f a h : Int} (p : P9 w b k d s r x y f a h) (hb : Below w.heap.size w w') : P9 w' b k d s r x y f a h := by
  obtain ⟨p0, p1, p2, p3, p4, p5, p6, p7, p8⟩ := p
  have hl := cell_ltL p0
  exact ⟨cb hb hl p0, cb hb hl p1, cb hb hl p2, cb hb hl p3, cb hb hl p4, cb hb hl p5, cb hb hl p6, cb hb hl p7, cb hb hl p8⟩
theorem P9.new (w : World) (T : TypeId) (k d s r : Int) (x y : Value) (f a h : Int) : P9 (w.alloc (.cells #[.int .i64 k, .int .i64 d, .int .i64 s, .int .i64 r, x, y, .int .i64 f, .int .i64 a, .int .i64 h] T)) w.heap.size k d s r x y f a h := by
  unfold P9
  simp
/-- A literal of one operation. -/
theorem ops_one (w : World) (T : TypeId) (o : Opr) (ax : Option Addr) (cx : Nat) (ay : Option Addr) (cy : Nat) (hA : OpAt w o ax cx ay cy) : OpsAt (w.alloc (.cells #[.int .i64 o.kd, .int .i64 o.bd, .int .i64 o.sg, .int .i64 o.rd, .slice ax o.xs.length cx, .slice ay o.ys.length cy, .int .i64 o.fl, .int .i64 o.wd, .int .i64 o.ht] T)) (some ⟨w.heap.size, 0, none⟩) [o] := by
  refine .inr ⟨w.heap.size, 0, rfl, fun j hj => ?_⟩
  obtain rfl : j = 0 := by simpa using hj
  show OpIn _ _ _ o
  obtain ⟨p0, p1, p2, p3, p4, p5, p6, p7, p8⟩ := P9.new w T o.kd o.bd o.sg o.rd (.slice ax o.xs.length cx) (.slice ay o.ys.length cy) o.fl o.wd o.ht
  exact ⟨p0, p1, p2, p3, p6, p7, p8, ax, cx, ay, cy, p4, p5, hA.below (below1 _ _)⟩
theorem S3new (w : World) (T : TypeId) (x y z : Value) : (w.alloc (.cells #[x, y, z] T)).cell? ⟨w.heap.size, 0, none⟩ = some x ∧ (w.alloc (.cells #[x, y, z] T)).cell? ⟨w.heap.size, 1, none⟩ = some y ∧ (w.alloc (.cells #[x, y, z] T)).cell? ⟨w.heap.size, 2, none⟩ = some z := by simp
theorem t3_below {w w' : World} {R : Nat} {x y z : Value} (h : w.cell? ⟨R, 0, none⟩ = some x ∧ w.cell? ⟨R, 1, none⟩ = some y ∧ w.cell? ⟨R, 2, none⟩ = some z) (hb : Below w.heap.size w w') : w'.cell? ⟨R, 0, none⟩ = some x ∧ w'.cell? ⟨R, 1, none⟩ = some y ∧ w'.cell? ⟨R, 2, none⟩ = some z :=
  ⟨cb hb (cell_ltL h.1) h.1, cb hb (cell_ltL h.1) h.2.1, cb hb (cell_ltL h.1) h.2.2⟩
end Go.Proofs.YtdpkigdfhfippaaGreatDoor

/- Plans: the program's own: a plan in memory; how many tiles; where a tile stands. -/
namespace Go.Proofs.YtdpkigdfhfippaaGreatDoor
open Go.RowKit

/-- In memory v is a plan of the stage S, of tiles of a by b. -/
def PlanAt (w : World) (v x y : Value) (S : Stg) (a b : Int) : Prop :=
  ∃ g, v = .pointer (some ⟨g, 0, none⟩) ∧ S5 w g x y (.int .i64 S.sb) (.int .i64 a) (.int .i64 b) ∧ Tab w x S.fx S.lx ∧ Tab w y S.fy S.ly ∧ tileB a b = true
theorem PlanAt.below {w w' : World} {v x y : Value} {S : Stg} {a b : Int} (h : PlanAt w v x y S a b) (hb : Below w.heap.size w w') : PlanAt w' v x y S a b := by
  obtain ⟨g, rfl, hs, tx, ty, ht⟩ := h
  exact ⟨g, rfl, hs.below hb, tx.below hb, ty.below hb, ht⟩
theorem parts14_any (n t : Int) (n0 : 0 ≤ n) (n1 : n ≤ 65536) (t0 : 1 ≤ t) (t1 : t ≤ 4096) (w : World) : Calls Tryz.prog 32 #[.int .i64 n, .int .i64 t] w fun e w' => e = .returned (.int .i64 (stepsN n t)) ∧ w = w' := by
  unfold stepsN
  go_enter Tryz.func32, Tryz.ntmps32
  go_wp2
  go_ret
  exact ⟨rfl, rfl⟩
theorem side14_yes (n : Int) (h : 1 ≤ n ∧ n ≤ 4096) (w : World) : Calls Tryz.prog 27 #[.int .i64 n] w fun e w' => e = .returned (.bool true) ∧ w = w' := by
  obtain ⟨h0, h1⟩ := h
  go_enter Tryz.func27, Tryz.ntmps27
  go_wp2
  go_ret
  exact ⟨rfl, rfl⟩
theorem side14_no (n : Int) (h : n < 1 ∨ 4096 < n) (w : World) : Calls Tryz.prog 27 #[.int .i64 n] w fun e w' => e = .returned (.bool false) ∧ w = w' := by
  rcases h with h | h
  · go_enter Tryz.func27, Tryz.ntmps27
    go_wp2
    go_ret
    exact ⟨rfl, rfl⟩
  · have h1 : 1 ≤ n := by omega
    have h2 : decide (n ≤ 4096) = false := decide_eq_false (by omega)
    go_enter Tryz.func27, Tryz.ntmps27
    go_wp2
    go_ret
    exact ⟨rfl, rfl⟩
/-- A callee that only draws, in a second region that draws and only reads. -/
theorem calmD2 {P : Program} {f : FuncId} {args : Array Value} {u : Value} {w : World} {m n : Nat} (h : Calls P f args (w.drewN (m + n)) fun e w' => e = .returned u ∧ Drew (w.drewN (m + n)) w') :
    Calls P f args (w.drewN (m + n)) fun e w'' => e = .returned u ∧ ∃ k, w'' = w.drewN (m + k) :=
  h.mono fun e w' ⟨he, k, hk⟩ => ⟨he, n + k, by rw [hk, World.drewN_drewN, Nat.add_assoc]⟩
theorem cols_any {w : World} {v x y : Value} {S : Stg} {a b : Int} (h : PlanAt w v x y S a b) : Calls Tryz.prog 31 #[v] w fun e w' => e = .returned (.int .i64 (acrossF S.lx a)) ∧ Drew w w' := by
  obtain ⟨g, rfl, hs, tx, ty, ht⟩ := h
  obtain ⟨ax, rfl⟩ := tx.ptr
  obtain ⟨a0, a1, _, _⟩ := tileB_iff.1 ht
  have n1 := tx.ok.2.2.1
  have CT := fun n => tab_to_d (tx.below (bdN (Below.refl _ w) n))
  have CP := parts14_any (S.lx.length : Int) a (by omega) (by omega) a0 a1
  obtain ⟨⟨c0, _⟩, ⟨c1, _⟩, ⟨c2, _⟩, ⟨c3, _⟩, ⟨c4, _⟩⟩ := hs
  unfold acrossF
  clear tx ty ht
  generalize S.lx.length = n at *
  go_enter Tryz.func31, Tryz.ntmps31
  go_wp2
  go_quiet ((first
    | (go_at_call 12; with_reducible exact calmD (CT _))
    | (go_at_call 32; with_reducible exact calm CP _ _)))
  go_wp2
  go_ret
  exact ⟨rfl, ⟨_, rfl⟩⟩
theorem count_any {w : World} {v x y : Value} {S : Stg} {a b : Int} (h : PlanAt w v x y S a b) : Calls Tryz.prog 15 #[v] w fun e w' => e = .returned (.int .i64 (countF S.lx S.ly a b)) ∧ Drew w w' := by
  have CC := fun n => cols_any (h.below (bdN (Below.refl _ w) n))
  obtain ⟨g, rfl, hs, tx, ty, ht⟩ := h
  obtain ⟨ay, rfl⟩ := ty.ptr
  obtain ⟨a0, a1, b0, b1⟩ := tileB_iff.1 ht
  have m1 := tx.ok.2.2.1
  have n1 := ty.ok.2.2.1
  have cin := count_in (LX := S.lx) (LY := S.ly) a0 b0
  have CT := fun n => tab_to_d (ty.below (bdN (Below.refl _ w) n))
  have CP := parts14_any (S.ly.length : Int) b (by omega) (by omega) b0 b1
  obtain ⟨⟨c0, _⟩, ⟨c1, _⟩, ⟨c2, _⟩, ⟨c3, _⟩, ⟨c4, _⟩⟩ := hs
  unfold countF
  rw [show stepsN (S.ly.length : Int) b = acrossF S.ly b from rfl] at CP
  have p1 : acrossF S.lx a * acrossF S.ly b ≤ 65536 * 65536 := Int.mul_le_mul (by omega) (by omega) (by omega) (by omega)
  have p0 : 0 ≤ acrossF S.lx a * acrossF S.ly b := Int.mul_nonneg (by omega) (by omega)
  have wr : IntKind.i64.wrap (acrossF S.lx a * acrossF S.ly b) = acrossF S.lx a * acrossF S.ly b := by rw [IntKind.wrap_i64]; omega
  clear tx ty ht cin m1
  generalize S.ly.length = n at *
  generalize acrossF S.lx a = A at *
  generalize acrossF S.ly b = B at *
  go_enter Tryz.func15, Tryz.ntmps15
  go_wp2
  go_quiet ((first
    | (go_at_call 31; with_reducible exact calmD (CC _))
    | (go_at_call 12; with_reducible exact calmD (CT _))
    | (go_at_call 32; with_reducible exact calm CP _ _)))
  go_wp2
  go_ret
  exact ⟨rfl, ⟨_, rfl⟩⟩
/-- Four cells of a block, that may be written. -/
def R4 (w : World) (R : Nat) (v0 v1 v2 v3 : Value) : Prop := (w.cell? ⟨R, 0, none⟩ = some v0 ∧ w.frozen? ⟨R, 0, none⟩ = false) ∧ (w.cell? ⟨R, 1, none⟩ = some v1 ∧ w.frozen? ⟨R, 1, none⟩ = false) ∧ (w.cell? ⟨R, 2, none⟩ = some v2 ∧ w.frozen? ⟨R, 2, none⟩ = false) ∧ (w.cell? ⟨R, 3, none⟩ = some v3 ∧ w.frozen? ⟨R, 3, none⟩ = false)
theorem R4.below {w w' : World} {R : Nat} {v0 v1 v2 v3 : Value} (h : R4 w R v0 v1 v2 v3) (b : Below w.heap.size w w') : R4 w' R v0 v1 v2 v3 := by
  obtain ⟨⟨h0, f0⟩, ⟨h1, f1⟩, ⟨h2, f2⟩, ⟨h3, f3⟩⟩ := h
  have hl := cell_ltL h0
  exact ⟨⟨cb b hl h0, fb b hl f0⟩, ⟨cb b hl h1, fb b hl f1⟩, ⟨cb b hl h2, fb b hl f2⟩, ⟨cb b hl h3, fb b hl f3⟩⟩
theorem R4.new (w : World) (T : TypeId) (v0 v1 v2 v3 : Value) : R4 (w.alloc (.cells #[v0, v1, v2, v3] T)) w.heap.size v0 v1 v2 v3 := by
  unfold R4
  simp
theorem R4.fill {w : World} {R : Nat} {u0 u1 u2 u3 : Value} (h : R4 w R u0 u1 u2 u3) (v0 v1 v2 v3 : Value) : R4 ((((w.setCell ⟨R, 0, none⟩ v0).setCell ⟨R, 1, none⟩ v1).setCell ⟨R, 2, none⟩ v2).setCell ⟨R, 3, none⟩ v3) R v0 v1 v2 v3 := by
  obtain ⟨⟨h0, f0⟩, ⟨h1, f1⟩, ⟨h2, f2⟩, ⟨h3, f3⟩⟩ := h
  unfold R4
  simp only [World.frozen?_setCell]
  refine ⟨⟨?_, f0⟩, ⟨?_, f1⟩, ⟨?_, f2⟩, ⟨?_, f3⟩⟩
  · rw [set_apart (Or.inr (by decide)), set_apart (Or.inr (by decide)), set_apart (Or.inr (by decide))]; exact World.cell?_setCell_same' _ _ _ (by rw [h0]; rfl)
  · rw [set_apart (Or.inr (by decide)), set_apart (Or.inr (by decide))]; exact World.cell?_setCell_same' _ _ _ (by rw [set_apart (Or.inr (by decide)), h1]; rfl)
  · rw [set_apart (Or.inr (by decide))]; exact World.cell?_setCell_same' _ _ _ (by rw [set_apart (Or.inr (by decide)), set_apart (Or.inr (by decide)), h2]; rfl)
  · exact World.cell?_setCell_same' _ _ _ (by rw [set_apart (Or.inr (by decide)), set_apart (Or.inr (by decide)), set_apart (Or.inr (by decide)), h3]; rfl)
theorem keep_rect {w : World} {g h : Nat} (ne : g ≠ h) {p q x y u0 u1 u2 u3 : Value} (c0 : w.cell? ⟨g, 0, none⟩ = some p) (c1 : w.cell? ⟨g, 1, none⟩ = some q) (c3 : w.cell? ⟨g, 3, none⟩ = some x) (c4 : w.cell? ⟨g, 4, none⟩ = some y) :
    ((((w.setCell ⟨h, 0, none⟩ u0).setCell ⟨h, 1, none⟩ u1).setCell ⟨h, 2, none⟩ u2).setCell ⟨h, 3, none⟩ u3).cell? ⟨g, 0, none⟩ = some p ∧ ((((w.setCell ⟨h, 0, none⟩ u0).setCell ⟨h, 1, none⟩ u1).setCell ⟨h, 2, none⟩ u2).setCell ⟨h, 3, none⟩ u3).cell? ⟨g, 1, none⟩ = some q ∧
    ((((w.setCell ⟨h, 0, none⟩ u0).setCell ⟨h, 1, none⟩ u1).setCell ⟨h, 2, none⟩ u2).setCell ⟨h, 3, none⟩ u3).cell? ⟨g, 3, none⟩ = some x ∧ ((((w.setCell ⟨h, 0, none⟩ u0).setCell ⟨h, 1, none⟩ u1).setCell ⟨h, 2, none⟩ u2).setCell ⟨h, 3, none⟩ u3).cell? ⟨g, 4, none⟩ = some y := by
  have e : ∀ o, ((((w.setCell ⟨h, 0, none⟩ u0).setCell ⟨h, 1, none⟩ u1).setCell ⟨h, 2, none⟩ u2).setCell ⟨h, 3, none⟩ u3).cell? ⟨g, o, none⟩ = w.cell? ⟨g, o, none⟩ := fun o => by
    rw [set_apart (Or.inl ne.symm), set_apart (Or.inl ne.symm), set_apart (Or.inl ne.symm), set_apart (Or.inl ne.symm)]
  exact ⟨(e 0).trans c0, (e 1).trans c1, (e 3).trans c3, (e 4).trans c4⟩
set_option maxHeartbeats 8000000 in
set_option maxRecDepth 100000 in
/-- Where a tile stands. -/
theorem out_any {w : World} {v x y : Value} {S : Stg} {a b : Int} (h : PlanAt w v x y S a b) (i : Int) (i0 : 0 ≤ i) (i1 : i < countF S.lx S.ly a b) :
    Calls Tryz.prog 47 #[v, .int .i64 i] w fun e w' => e = .returned (.agg #[.int .i64 (i % acrossF S.lx a * a), .int .i64 (i / acrossF S.lx a * b), .int .i64 (min a ((S.lx.length : Int) - i % acrossF S.lx a * a)), .int .i64 (min b ((S.ly.length : Int) - i / acrossF S.lx a * b))]) ∧ Below w.heap.size w w' := by
  have H := hide h
  obtain ⟨g, rfl, hs, tx, ty, ht⟩ := h
  obtain ⟨ax, rfl⟩ := tx.ptr
  obtain ⟨ay, rfl⟩ := ty.ptr
  obtain ⟨a0, a1, b0, b1⟩ := tileB_iff.1 ht
  have m0 := tx.ok.2.1
  have m1 := tx.ok.2.2.1
  have n1 := ty.ok.2.2.1
  have A1 := steps_pos (n := (S.lx.length : Int)) (t := a) (by omega) a0
  rw [show stepsN (S.lx.length : Int) a = acrossF S.lx a from rfl] at A1
  obtain ⟨p0, p1, q0, q1, e5⟩ := plc_in (A := acrossF S.lx a) (D := acrossF S.ly b) A1 i0 i1
  clear e5
  have X1 := (steps_lt (n := (S.lx.length : Int)) a0).1 p1
  have Y1 := (steps_lt (n := (S.ly.length : Int)) b0).1 q1
  have X0 : 0 ≤ i % acrossF S.lx a * a := Int.mul_nonneg p0 (by omega)
  have Y0 : 0 ≤ i / acrossF S.lx a * b := Int.mul_nonneg q0 (by omega)
  have CC := fun w' (b' : Below w.heap.size w w') => fun n => cols_any (H.out.below (bdN b' n))
  have CTX := fun w' (b' : Below w.heap.size w w') => tab_to (tx.below b')
  have CTY := fun w' (b' : Below w.heap.size w w') => tab_to (ty.below b')
  have hne : g ≠ w.heap.size := Nat.ne_of_lt (cell_ltL hs.1.1)
  have HR := hide (R4.new w 44 (.int .i64 0) (.int .i64 0) (.int .i64 0) (.int .i64 0))
  have HS0 := hide hs
  have HS := hide (hs.below (below1 w (.cells #[.int .i64 0, .int .i64 0, .int .i64 0, .int .i64 0] 44)))
  have i2 : i ≤ 65536 * 65536 := by
    have cin := count_in (LX := S.lx) (LY := S.ly) a0 b0
    have : (S.lx.length : Int) * (S.ly.length : Int) ≤ 65536 * 65536 := Int.mul_le_mul (by omega) (by omega) (by omega) (by omega)
    omega
  have q2 : i / acrossF S.lx a ≤ 65536 := by
    have cin := count_in (LX := S.lx) (LY := S.ly) a0 b0
    omega
  have wx1 : IntKind.i64.wrap (i % acrossF S.lx a * a) = i % acrossF S.lx a * a := by rw [IntKind.wrap_i64]; omega
  have wy1 : IntKind.i64.wrap (i / acrossF S.lx a * b) = i / acrossF S.lx a * b := by rw [IntKind.wrap_i64]; omega
  have tm : i.tmod (acrossF S.lx a) = i % acrossF S.lx a := Int.tmod_eq_emod_of_nonneg i0
  have td : i.tdiv (acrossF S.lx a) = i / acrossF S.lx a := Int.tdiv_eq_ediv_of_nonneg i0
  clear hs tx ty ht i1 m0 q1 p1
  generalize S.lx.length = n at *
  generalize S.ly.length = m at *
  generalize acrossF S.lx a = A at *
  obtain ⟨p, hp⟩ : ∃ p, i % A = p := ⟨_, rfl⟩
  obtain ⟨q, hq⟩ : ∃ q, i / A = q := ⟨_, rfl⟩
  rw [hp] at tm wx1 X0 X1 p0 ⊢
  rw [hq] at td wy1 Y0 Y1 q0 q2 ⊢
  obtain ⟨X, hX⟩ : ∃ X, p * a = X := ⟨_, rfl⟩
  obtain ⟨Y, hY⟩ : ∃ Y, q * b = Y := ⟨_, rfl⟩
  rw [hX] at wx1 X0 X1 ⊢
  rw [hY] at wy1 Y0 Y1 ⊢
  have wnx : IntKind.i64.wrap ((n : Int) - X) = (n : Int) - X := by rw [IntKind.wrap_i64]; omega
  have wmy : IntKind.i64.wrap ((m : Int) - Y) = (m : Int) - Y := by rw [IntKind.wrap_i64]; omega
  have hA0 : (A == 0) = false := beq_eq_false_iff_ne.2 (by omega)
  obtain ⟨⟨c0, _⟩, ⟨c1, _⟩, ⟨c2, _⟩, ⟨c3, _⟩, ⟨c4, _⟩⟩ := HS.out
  clear hp hq
  go_enter Tryz.func47, Tryz.ntmps47
  go_wp2
  go_quiet ((go_at_call 31; with_reducible exact calmD (CC _ (below1 _ _) _)))
  go_wp2
  go_quiet ((go_at_call 31; with_reducible exact calmD2 (CC _ (below1 _ _) _)))
  go_wp2
  go_region_held3 (fun w' => w'.cell? ⟨g, 0, none⟩ = some (.pointer (some ax)) ∧ w'.cell? ⟨g, 1, none⟩ = some (.pointer (some ay)) ∧ w'.cell? ⟨g, 3, none⟩ = some (.int .i64 a) ∧ w'.cell? ⟨g, 4, none⟩ = some (.int .i64 b)) (first | with_reducible assumption | (with_reducible exact ⟨z0, z1, z3, z4⟩) | (with_reducible exact ⟨y0, y1, y3, y4⟩) | (with_reducible exact keep_rect hne z0 z1 z3 z4) | go_keep)
    (first
      | (go_at_call 12; (with_reducible refine (CTX _ (by repeat (first | exact Below.refl _ _ | (with_reducible refine bdN ?_ _) | with_reducible refine bd ?_ | with_reducible refine ba ?_ _))).mono ?_); rintro e w8 ⟨rfl, b8⟩; have D8 : Below w.heap.size w w8 := bt (by repeat (first | exact Below.refl _ _ | (with_reducible refine bdN ?_ _) | with_reducible refine bd ?_ | with_reducible refine ba ?_ _)) b8; have K8 := hide D8; have R8 := hide ((HR.out.below (by repeat (first | exact Below.refl _ _ | (with_reducible refine bdN ?_ _) | with_reducible refine bd ?_ | with_reducible refine ba ?_ _))).below b8); have y8 := HS0.out.below D8; obtain ⟨⟨y0, _⟩, ⟨y1, _⟩, _, ⟨y3, _⟩, ⟨y4, _⟩⟩ := y8; clear D8)
      | (go_at_call 12; (with_reducible refine (CTY _ K8.out).mono ?_); rintro e w9 ⟨rfl, b9⟩; have K9 := hide (bt K8.out b9); have R9 := hide (R8.out.below b9); have y9 := HS0.out.below K9.out; obtain ⟨⟨z0, _⟩, ⟨z1, _⟩, _, ⟨z3, _⟩, ⟨z4, _⟩⟩ := y9; obtain ⟨⟨v0, vf0⟩, ⟨v1, vf1⟩, ⟨v2, vf2⟩, ⟨v3, vf3⟩⟩ := R9.out))
  all_goals
    have F9 := R9.out.fill (.int .i64 X) (.int .i64 Y) (.int .i64 (min a ((n : Int) - X))) (.int .i64 (min b ((m : Int) - Y)))
    have B9 := hide (bs (bs (bs (bs K9.out (Nat.le_refl _) (.int .i64 X) (o := 0)) (Nat.le_refl _) (.int .i64 Y) (o := 1)) (Nat.le_refl _) (.int .i64 (min a ((n : Int) - X))) (o := 2)) (Nat.le_refl _) (.int .i64 (min b ((m : Int) - Y))) (o := 3))
    obtain ⟨⟨t0, _⟩, ⟨t1, _⟩, ⟨t2, _⟩, ⟨t3, _⟩⟩ := F9
    go_wp2
    exact bodyPost_ret (v := .agg #[.int .i64 X, .int .i64 Y, .int .i64 (min a ((n : Int) - X)), .int .i64 (min b ((m : Int) - Y))]) (by simp [results, Tryz.results47, go_sem, t0, t1, t2, t3]) rfl ⟨rfl, B9.out⟩
end Go.Proofs.YtdpkigdfhfippaaGreatDoor
