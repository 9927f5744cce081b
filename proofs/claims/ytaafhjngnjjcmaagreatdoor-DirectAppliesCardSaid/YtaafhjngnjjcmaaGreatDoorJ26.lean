/- Parts, joined. -/
import Derived.Test.YtaafhjngnjjcmaaGreatDoorJ25
import Derived.Test.YtaafhjngnjjcmaaGreatDoorJ17
import Derived.Test.YtaafhjngnjjcmaaGreatDoorJ22
import Derived.Test.YtaafhjngnjjcmaaGreatDoorJ23
import Derived.Test.YtaafhjngnjjcmaaGreatDoorJ19
import Derived.Deep.RegionHeld3
import Derived.BigQuiet
/- Operations: what the program's calls are to answer; the example; the law on one operation. -/
namespace Go.Proofs.YtaafhjngnjjcmaaGreatDoor
open Go.RowKit


/-- What Make answers. -/
def MakeAns (e : Ending) (w' : World) (k : Int) (S : Stg) : Prop :=
  (k ≠ 0 ∧ e = .returned (.tuple #[.agg #[.pointer none, .pointer none, .int .i64 0], .int .i64 k])) ∨ (k = 0 ∧ ∃ x y, e = .returned (.tuple #[.agg #[x, y, .int .i64 S.sb], .int .i64 0]) ∧ Tab w' x S.fx S.lx ∧ Tab w' y S.fy S.ly)
def OMakeC (K : World → Prop) : Prop := ∀ (o : Opr) (ax : Option Addr) (cx : Nat) (ay : Option Addr) (cy : Nat) (a b : Int) (w : World), K w → OpAt w o ax cx ay cy → OpFits o → In64 a → In64 b →
  Calls Tryz.prog 34 #[opV o ax cx ay cy, .int .i64 a, .int .i64 b] w fun e w' => MakeAns e w' (opCode o a b) (stgOf o a b) ∧ Below w.heap.size w w'
def exO : Opr := ⟨3, 0, 0, 0, [], [], 0, 2, 1⟩
theorem exO_code : opCode exO 4 3 = 0 ∧ (stgOf exO 4 3).lx.length = 2 ∧ (stgOf exO 4 3).ly.length = 1 := by decide +kernel
theorem exO_fits : OpFits exO := by
  refine ⟨?_, ?_, ?_, ?_, ?_, ?_, ?_, (fun n hn => by cases hn), (fun n hn => by cases hn), Nat.zero_le _, Nat.zero_le _⟩ <;> (unfold In64 exO; simp)
set_option maxRecDepth 100000 in
theorem olives {K : World → Prop} (hKB : ∀ w w', K w → Below w.heap.size w w' → K w') (hKK : ∀ w, K w → Kinds w) (CM : OMakeC K) (w : World) (hk : K w) :
    Calls Tryz.prog 36 #[] w fun e w' => e = .returned (.bool true) ∧ Below w.heap.size w w' := by
  have C8 : ∀ w : World, Kinds w → Calls Tryz.prog 72 #[] w fun e w' => e = .returned (.bool true) ∧ Below w.heap.size w w' := fun w hk => lives8 w hk
  obtain ⟨e1, e2, e3⟩ := exO_code
  have C1 : ∀ w : World, K w → Calls Tryz.prog 34 #[.agg #[.int .i64 3, .int .i64 0, .int .i64 0, .int .i64 0, .slice none 0 0, .slice none 0 0, .int .i64 0, .int .i64 2, .int .i64 1], .int .i64 4, .int .i64 3] w fun e w' => (∃ x y, e = .returned (.tuple #[.agg #[.pointer (some x), .pointer (some y), .int .i64 0], .int .i64 0]) ∧ Tab w' (.pointer (some x)) 4 (stgOf exO 4 3).lx ∧ Tab w' (.pointer (some y)) 3 (stgOf exO 4 3).ly) ∧ Below w.heap.size w w' := fun w hk =>
    (CM exO none 0 none 0 4 3 w hk ⟨.inl rfl, .inl rfl, fun _ => rfl, fun _ => rfl⟩ exO_fits (by unfold In64; omega) (by unfold In64; omega)).mono fun e w' ⟨hA, hB⟩ => by
      rw [e1] at hA
      rcases hA with ⟨h0, _⟩ | ⟨_, x, y, he, tx, ty⟩
      · exact absurd rfl h0
      · obtain ⟨ax, rfl⟩ := tx.ptr
        obtain ⟨ay, rfl⟩ := ty.ptr
        exact ⟨⟨ax, ay, he, tx, ty⟩, hB⟩
  have TF := fun {w : World} {v : Value} {n : Int} {L : List (Int × List Int)} (h : Tab w v n L) => tab_from h
  have TX := fun {w : World} {v : Value} {n : Int} (h : Tab w v n (stgOf exO 4 3).lx) => tab_to h
  have TY := fun {w : World} {v : Value} {n : Int} (h : Tab w v n (stgOf exO 4 3).ly) => tab_to h
  rw [e2] at TX
  rw [e3] at TY
  clear e1 e2 e3 CM
  generalize (stgOf exO 4 3).lx = LX at *
  generalize (stgOf exO 4 3).ly = LY at *
  have q1 : ∀ (a : Addr) (w : World), (binOp .neq 41 (.pointer (some a)) (.pointer none)).run Tryz.prog w = .ok (.bool true) w := fun a w => by kernel_rfl
  go_enter Tryz.func36, Tryz.ntmps36
  go_wp2_with (first
    | (go_at_call 34; (with_reducible refine (C1 _ hk).mono ?_); rintro e w1 ⟨⟨x, y, rfl, tx, ty⟩, b1⟩; have HX := hide tx; have HY := hide ty; clear tx ty)
    | (go_at_call 72; (with_reducible refine (C8 _ (hKK _ (hKB _ _ hk (ba b1 _)))).mono ?_); rintro e w2 ⟨rfl, b2⟩; have p0 := cb b2 (b := w1.heap.size) (o := 0) (v := .pointer (some x)) (by simp) (by simp); have p1 := cb b2 (b := w1.heap.size) (o := 1) (v := .pointer (some y)) (by simp) (by simp); have l2 : w1.heap.size < w2.heap.size := (by have := b2.size; simp at this; omega))
    | (go_at_call 53; (with_reducible refine (TF ((HX.out.below (below1 _ _)).below b2)).mono ?_); rintro e w3 ⟨rfl, b3⟩; have p2 := cb b3 l2 p0; have p3 := cb b3 l2 p1; have l3 := Nat.lt_of_lt_of_le l2 b3.size)
    | (go_at_call 18; (with_reducible refine (TX (((HX.out.below (below1 _ _)).below b2).below b3)).mono ?_); rintro e w4 ⟨rfl, b4⟩; have p5 := cb b4 l3 p3; have l4 := Nat.lt_of_lt_of_le l3 b4.size)
    | (go_at_call 53; (with_reducible refine (TF ((((HY.out.below (below1 _ _)).below b2).below b3).below b4)).mono ?_); rintro e w5 ⟨rfl, b5⟩; have p6 := cb b5 l4 p5)
    | (go_at_call 18; (with_reducible refine (TY (((((HY.out.below (below1 _ _)).below b2).below b3).below b4).below b5)).mono ?_); rintro e w6 ⟨rfl, b6⟩))
  go_ret
  exact ⟨rfl, bt (bt (bt (bt (bt (ba b1 _) b2) b3) b4) b5) b6⟩
end Go.Proofs.YtaafhjngnjjcmaaGreatDoor

/- Plans: what the program's calls are to answer. -/
namespace Go.Proofs.YtaafhjngnjjcmaaGreatDoor
open Go.RowKit

def inB (n i : Int) : Bool := decide (0 ≤ i ∧ i < n)
theorem inB_iff {n i : Int} : inB n i = true ↔ 0 ≤ i ∧ i < n := decide_eq_true_iff
end Go.Proofs.YtaafhjngnjjcmaaGreatDoor

/- What stands beyond the edge: the laws. -/
namespace Go.Proofs.YtaafhjngnjjcmaaGreatDoor
open Go.RowKit

/-- A callee that leaves the world as it is, in a region that draws and only reads. -/
theorem calm {P : Program} {f : FuncId} {args : Array Value} {u : Value} (h : ∀ w : World, Calls P f args w fun e w' => e = .returned u ∧ w = w') (w : World) (n : Nat) :
    Calls P f args (w.drewN n) fun e w'' => e = .returned u ∧ ∃ m, w'' = w.drewN m :=
  (h _).mono fun _ _ q => ⟨q.1, n, q.2.symm⟩
end Go.Proofs.YtaafhjngnjjcmaaGreatDoor

/- Operations: the document's Make: what may not be. -/
namespace Go.Proofs.YtaafhjngnjjcmaaGreatDoor
open Go.RowKit


/-- Five cells of a block, that may be written. -/
def S5 (w : World) (R : Nat) (v0 v1 v2 v3 v4 : Value) : Prop :=
  (w.cell? ⟨R, 0, none⟩ = some v0 ∧ w.frozen? ⟨R, 0, none⟩ = false) ∧ (w.cell? ⟨R, 1, none⟩ = some v1 ∧ w.frozen? ⟨R, 1, none⟩ = false) ∧ (w.cell? ⟨R, 2, none⟩ = some v2 ∧ w.frozen? ⟨R, 2, none⟩ = false) ∧
  (w.cell? ⟨R, 3, none⟩ = some v3 ∧ w.frozen? ⟨R, 3, none⟩ = false) ∧ (w.cell? ⟨R, 4, none⟩ = some v4 ∧ w.frozen? ⟨R, 4, none⟩ = false)
theorem S5.grown {w w' : World} {R : Nat} {v0 v1 v2 v3 v4 : Value} {row : Option Nat} (h : S5 w R v0 v1 v2 v3 v4) (g : w.grownBy w' row) (ne : some R ≠ row) : S5 w' R v0 v1 v2 v3 v4 := by
  obtain ⟨⟨a, a'⟩, ⟨b, b'⟩, ⟨c, c'⟩, ⟨d, d'⟩, ⟨e, e'⟩⟩ := h
  exact ⟨⟨cg g ne a, fg g ne a a'⟩, ⟨cg g ne b, fg g ne b b'⟩, ⟨cg g ne c, fg g ne c c'⟩, ⟨cg g ne d, fg g ne d d'⟩, ⟨cg g ne e, fg g ne e e'⟩⟩
theorem S5.below {w w' : World} {R : Nat} {v0 v1 v2 v3 v4 : Value} (h : S5 w R v0 v1 v2 v3 v4) (b : Below w.heap.size w w') : S5 w' R v0 v1 v2 v3 v4 := h.grown (grown_below b none) (by simp)
theorem S5.new (w : World) (T : TypeId) (v0 v1 v2 v3 v4 : Value) : S5 (w.alloc (.cells #[v0, v1, v2, v3, v4] T)) w.heap.size v0 v1 v2 v3 v4 := by
  unfold S5
  simp
theorem S5.set0 {w : World} {R : Nat} {v0 v1 v2 v3 v4 : Value} (h : S5 w R v0 v1 v2 v3 v4) (u : Value) : S5 (w.setCell ⟨R, 0, none⟩ u) R u v1 v2 v3 v4 := by
  obtain ⟨⟨a, a'⟩, ⟨b, b'⟩, ⟨c, c'⟩, ⟨d, d'⟩, ⟨e, e'⟩⟩ := h
  unfold S5
  simp only [World.frozen?_setCell]
  refine ⟨⟨World.cell?_setCell_same' _ _ _ (by rw [a]; rfl), a'⟩, ⟨?_, b'⟩, ⟨?_, c'⟩, ⟨?_, d'⟩, ⟨?_, e'⟩⟩ <;> rw [World.cell?_setCell_other _ _ _ _ (by intro x; simp at x)] <;> assumption
theorem S5.set1 {w : World} {R : Nat} {v0 v1 v2 v3 v4 : Value} (h : S5 w R v0 v1 v2 v3 v4) (u : Value) : S5 (w.setCell ⟨R, 1, none⟩ u) R v0 u v2 v3 v4 := by
  obtain ⟨⟨a, a'⟩, ⟨b, b'⟩, ⟨c, c'⟩, ⟨d, d'⟩, ⟨e, e'⟩⟩ := h
  unfold S5
  simp only [World.frozen?_setCell]
  refine ⟨⟨?_, a'⟩, ⟨World.cell?_setCell_same' _ _ _ (by rw [b]; rfl), b'⟩, ⟨?_, c'⟩, ⟨?_, d'⟩, ⟨?_, e'⟩⟩ <;> rw [World.cell?_setCell_other _ _ _ _ (by intro x; simp at x)] <;> assumption
theorem S5.set2 {w : World} {R : Nat} {v0 v1 v2 v3 v4 : Value} (h : S5 w R v0 v1 v2 v3 v4) (u : Value) : S5 (w.setCell ⟨R, 2, none⟩ u) R v0 v1 u v3 v4 := by
  obtain ⟨⟨a, a'⟩, ⟨b, b'⟩, ⟨c, c'⟩, ⟨d, d'⟩, ⟨e, e'⟩⟩ := h
  unfold S5
  simp only [World.frozen?_setCell]
  refine ⟨⟨?_, a'⟩, ⟨?_, b'⟩, ⟨World.cell?_setCell_same' _ _ _ (by rw [c]; rfl), c'⟩, ⟨?_, d'⟩, ⟨?_, e'⟩⟩ <;> rw [World.cell?_setCell_other _ _ _ _ (by intro x; simp at x)] <;> assumption
theorem S5.set3 {w : World} {R : Nat} {v0 v1 v2 v3 v4 : Value} (h : S5 w R v0 v1 v2 v3 v4) (u : Value) : S5 (w.setCell ⟨R, 3, none⟩ u) R v0 v1 v2 u v4 := by
  obtain ⟨⟨a, a'⟩, ⟨b, b'⟩, ⟨c, c'⟩, ⟨d, d'⟩, ⟨e, e'⟩⟩ := h
  unfold S5
  simp only [World.frozen?_setCell]
  refine ⟨⟨?_, a'⟩, ⟨?_, b'⟩, ⟨?_, c'⟩, ⟨World.cell?_setCell_same' _ _ _ (by rw [d]; rfl), d'⟩, ⟨?_, e'⟩⟩ <;> rw [World.cell?_setCell_other _ _ _ _ (by intro x; simp at x)] <;> assumption
theorem S5.set4 {w : World} {R : Nat} {v0 v1 v2 v3 v4 : Value} (h : S5 w R v0 v1 v2 v3 v4) (u : Value) : S5 (w.setCell ⟨R, 4, none⟩ u) R v0 v1 v2 v3 u := by
  obtain ⟨⟨a, a'⟩, ⟨b, b'⟩, ⟨c, c'⟩, ⟨d, d'⟩, ⟨e, e'⟩⟩ := h
  unfold S5
  simp only [World.frozen?_setCell]
  refine ⟨⟨?_, a'⟩, ⟨?_, b'⟩, ⟨?_, c'⟩, ⟨?_, d'⟩, ⟨World.cell?_setCell_same' _ _ _ (by rw [e]; rfl), e'⟩⟩ <;> rw [World.cell?_setCell_other _ _ _ _ (by intro x; simp at x)] <;> assumption
/-- All five are written. -/
theorem S5.fill {w : World} {R : Nat} {u0 u1 u2 u3 u4 : Value} (h : S5 w R u0 u1 u2 u3 u4) (v0 v1 v2 v3 v4 : Value) : S5 (((((w.setCell ⟨R, 0, none⟩ v0).setCell ⟨R, 1, none⟩ v1).setCell ⟨R, 2, none⟩ v2).setCell ⟨R, 3, none⟩ v3).setCell ⟨R, 4, none⟩ v4) R v0 v1 v2 v3 v4 :=
  ((((h.set0 v0).set1 v1).set2 v2).set3 v3).set4 v4
theorem below_fill {a w : World} {R : Nat} (h : Below a.heap.size a w) (hR : a.heap.size ≤ R) (v0 v1 v2 v3 v4 : Value) : Below a.heap.size a (((((w.setCell ⟨R, 0, none⟩ v0).setCell ⟨R, 1, none⟩ v1).setCell ⟨R, 2, none⟩ v2).setCell ⟨R, 3, none⟩ v3).setCell ⟨R, 4, none⟩ v4) :=
  bs (bs (bs (bs (bs h hR _) hR _) hR _) hR _) hR _
def s0V : Value := .agg #[.slice none 0 0, .slice none 0 0, .int .i64 0, .int .i64 0, .int .i64 0]
set_option maxHeartbeats 4000000 in
set_option maxRecDepth 100000 in
theorem dmake_bad (o : Opr) (ax : Option Addr) (cx : Nat) (ay : Option Addr) (cy : Nat) (a b : Int) (w : World) (h : okO o a b = false) :
    Calls Tryz.prog 75 #[opV o ax cx ay cy, .int .i64 a, .int .i64 b] w fun e w' => e = .returned (.tuple #[s0V, .int .i64 6]) ∧ Below w.heap.size w w' := by
  have hn : ¬ ((0 ≤ o.kd ∧ o.kd ≤ 3) ∧ (0 ≤ o.bd ∧ o.bd ≤ 2) ∧ (1 ≤ a ∧ a ≤ 65536) ∧ (1 ≤ b ∧ b ≤ 65536) ∧ (o.kd = 3 → (1 ≤ o.wd ∧ o.wd ≤ 65536) ∧ (1 ≤ o.ht ∧ o.ht ≤ 65536) ∧ 0 ≤ o.fl ∧ o.fl ≤ 2)) := fun g => Bool.false_ne_true (h.symm.trans ((okO_iff o a b).2 g))
  unfold opV s0V
  obtain ⟨kd, bd, sg, rd, xs, ys, fl, wd, ht⟩ := o
  simp only at hn ⊢
  clear h
  generalize xs.length = nx at *
  generalize ys.length = ny at *
  by_cases a1 : kd < 0
  · clear hn
    go_enter Tryz.func75, Tryz.ntmps75
    go_wp2
    exact bodyPost_ret (v := .tuple #[.agg #[.slice none 0 0, .slice none 0 0, .int .i64 0, .int .i64 0, .int .i64 0], .int .i64 6]) (by simp [results, Tryz.results75, go_sem]) rfl ⟨rfl, by repeat (first | exact Below.refl _ _ | with_reducible refine ba ?_ _)⟩
  by_cases a2 : 3 < kd
  · clear hn
    go_enter Tryz.func75, Tryz.ntmps75
    go_wp2
    exact bodyPost_ret (v := .tuple #[.agg #[.slice none 0 0, .slice none 0 0, .int .i64 0, .int .i64 0, .int .i64 0], .int .i64 6]) (by simp [results, Tryz.results75, go_sem]) rfl ⟨rfl, by repeat (first | exact Below.refl _ _ | with_reducible refine ba ?_ _)⟩
  by_cases a3 : bd < 0
  · clear hn
    go_enter Tryz.func75, Tryz.ntmps75
    go_wp2
    exact bodyPost_ret (v := .tuple #[.agg #[.slice none 0 0, .slice none 0 0, .int .i64 0, .int .i64 0, .int .i64 0], .int .i64 6]) (by simp [results, Tryz.results75, go_sem]) rfl ⟨rfl, by repeat (first | exact Below.refl _ _ | with_reducible refine ba ?_ _)⟩
  by_cases a4 : 2 < bd
  · clear hn
    go_enter Tryz.func75, Tryz.ntmps75
    go_wp2
    exact bodyPost_ret (v := .tuple #[.agg #[.slice none 0 0, .slice none 0 0, .int .i64 0, .int .i64 0, .int .i64 0], .int .i64 6]) (by simp [results, Tryz.results75, go_sem]) rfl ⟨rfl, by repeat (first | exact Below.refl _ _ | with_reducible refine ba ?_ _)⟩
  by_cases a5 : 1 ≤ a ∧ a ≤ 65536
  case neg =>
    have S1 := dside12_no a (by omega)
    clear hn a5
    go_enter Tryz.func75, Tryz.ntmps75
    go_wp2_with (first
      | (go_at_call 105; (with_reducible refine (S1 _).mono ?_); rintro e w1 ⟨rfl, rfl⟩))
    exact bodyPost_ret (v := .tuple #[.agg #[.slice none 0 0, .slice none 0 0, .int .i64 0, .int .i64 0, .int .i64 0], .int .i64 6]) (by simp [results, Tryz.results75, go_sem]) rfl ⟨rfl, by repeat (first | exact Below.refl _ _ | with_reducible refine ba ?_ _)⟩
  have S1 := dside12_yes a a5.1 a5.2
  by_cases a6 : 1 ≤ b ∧ b ≤ 65536
  case neg =>
    have S2 := dside12_no b (by omega)
    clear hn a5 a6
    go_enter Tryz.func75, Tryz.ntmps75
    go_wp2_with (first
      | (go_at_call 105; (with_reducible refine (S1 _).mono ?_); rintro e w1 ⟨rfl, rfl⟩)
      | (go_at_call 105; (with_reducible refine (S2 _).mono ?_); rintro e w1 ⟨rfl, rfl⟩))
    exact bodyPost_ret (v := .tuple #[.agg #[.slice none 0 0, .slice none 0 0, .int .i64 0, .int .i64 0, .int .i64 0], .int .i64 6]) (by simp [results, Tryz.results75, go_sem]) rfl ⟨rfl, by repeat (first | exact Below.refl _ _ | with_reducible refine ba ?_ _)⟩
  have S2 := dside12_yes b a6.1 a6.2
  have k3 : kd = 3 := by
    by_cases k : kd = 3
    · exact k
    · exact absurd ⟨⟨by omega, by omega⟩, ⟨by omega, by omega⟩, a5, a6, fun e => absurd e k⟩ hn
  subst k3
  by_cases a7 : 1 ≤ wd ∧ wd ≤ 65536
  case neg =>
    have S3 := dside12_no wd (by omega)
    clear hn a5 a6 a7
    go_enter Tryz.func75, Tryz.ntmps75
    go_wp2_with (first
      | (go_at_call 105; (with_reducible refine (S1 _).mono ?_); rintro e w1 ⟨rfl, rfl⟩)
      | (go_at_call 105; (with_reducible refine (S2 _).mono ?_); rintro e w1 ⟨rfl, rfl⟩)
      | (go_at_call 105; (with_reducible refine (S3 _).mono ?_); rintro e w1 ⟨rfl, rfl⟩))
    exact bodyPost_ret (v := .tuple #[.agg #[.slice none 0 0, .slice none 0 0, .int .i64 0, .int .i64 0, .int .i64 0], .int .i64 6]) (by simp [results, Tryz.results75, go_sem]) rfl ⟨rfl, by repeat (first | exact Below.refl _ _ | with_reducible refine ba ?_ _)⟩
  have S3 := dside12_yes wd a7.1 a7.2
  by_cases a8 : 1 ≤ ht ∧ ht ≤ 65536
  case neg =>
    have S4 := dside12_no ht (by omega)
    clear hn a5 a6 a7 a8
    go_enter Tryz.func75, Tryz.ntmps75
    go_wp2_with (first
      | (go_at_call 105; (with_reducible refine (S1 _).mono ?_); rintro e w1 ⟨rfl, rfl⟩)
      | (go_at_call 105; (with_reducible refine (S2 _).mono ?_); rintro e w1 ⟨rfl, rfl⟩)
      | (go_at_call 105; (with_reducible refine (S3 _).mono ?_); rintro e w1 ⟨rfl, rfl⟩)
      | (go_at_call 105; (with_reducible refine (S4 _).mono ?_); rintro e w1 ⟨rfl, rfl⟩))
    exact bodyPost_ret (v := .tuple #[.agg #[.slice none 0 0, .slice none 0 0, .int .i64 0, .int .i64 0, .int .i64 0], .int .i64 6]) (by simp [results, Tryz.results75, go_sem]) rfl ⟨rfl, by repeat (first | exact Below.refl _ _ | with_reducible refine ba ?_ _)⟩
  have S4 := dside12_yes ht a8.1 a8.2
  by_cases a9 : fl < 0
  · clear hn a5 a6 a7 a8
    go_enter Tryz.func75, Tryz.ntmps75
    go_wp2_with (first
      | (go_at_call 105; (with_reducible refine (S1 _).mono ?_); rintro e w1 ⟨rfl, rfl⟩)
      | (go_at_call 105; (with_reducible refine (S2 _).mono ?_); rintro e w1 ⟨rfl, rfl⟩)
      | (go_at_call 105; (with_reducible refine (S3 _).mono ?_); rintro e w1 ⟨rfl, rfl⟩)
      | (go_at_call 105; (with_reducible refine (S4 _).mono ?_); rintro e w1 ⟨rfl, rfl⟩))
    exact bodyPost_ret (v := .tuple #[.agg #[.slice none 0 0, .slice none 0 0, .int .i64 0, .int .i64 0, .int .i64 0], .int .i64 6]) (by simp [results, Tryz.results75, go_sem]) rfl ⟨rfl, by repeat (first | exact Below.refl _ _ | with_reducible refine ba ?_ _)⟩
  have aa : 2 < fl := by
    by_cases k : 2 < fl
    · exact k
    · exact absurd ⟨⟨by omega, by omega⟩, ⟨by omega, by omega⟩, a5, a6, fun _ => ⟨a7, a8, by omega, by omega⟩⟩ hn
  clear hn a5 a6 a7 a8
  go_enter Tryz.func75, Tryz.ntmps75
  go_wp2_with (first
    | (go_at_call 105; (with_reducible refine (S1 _).mono ?_); rintro e w1 ⟨rfl, rfl⟩)
    | (go_at_call 105; (with_reducible refine (S2 _).mono ?_); rintro e w1 ⟨rfl, rfl⟩)
    | (go_at_call 105; (with_reducible refine (S3 _).mono ?_); rintro e w1 ⟨rfl, rfl⟩)
    | (go_at_call 105; (with_reducible refine (S4 _).mono ?_); rintro e w1 ⟨rfl, rfl⟩))
  exact bodyPost_ret (v := .tuple #[.agg #[.slice none 0 0, .slice none 0 0, .int .i64 0, .int .i64 0, .int .i64 0], .int .i64 6]) (by simp [results, Tryz.results75, go_sem]) rfl ⟨rfl, by repeat (first | exact Below.refl _ _ | with_reducible refine ba ?_ _)⟩
end Go.Proofs.YtaafhjngnjjcmaaGreatDoor

/- Blocks of nine cells, and of three. -/
namespace Go.Proofs.YtaafhjngnjjcmaaGreatDoor
open Go.RowKit


/-- The nine cells of an operation at the head of a block. -/
def P9 (w : World) (b : Nat) (k d s r : Int) (x y : Value) (f a h : Int) : Prop :=
  w.cell? ⟨b, 0, none⟩ = some (.int .i64 k) ∧ w.cell? ⟨b, 1, none⟩ = some (.int .i64 d) ∧ w.cell? ⟨b, 2, none⟩ = some (.int .i64 s) ∧ w.cell? ⟨b, 3, none⟩ = some (.int .i64 r) ∧ w.cell? ⟨b, 4, none⟩ = some x ∧ w.cell? ⟨b, 5, none⟩ = some y ∧
  w.cell? ⟨b, 6, none⟩ = some (.int .i64 f) ∧ w.cell? ⟨b, 7, none⟩ = some (.int .i64 a) ∧ w.cell? ⟨b, 8, none⟩ = some (.int .i64 h)
theorem P9.below {w w' : World} {b : Nat} {k d s r : Int} {x y : Value} {f a h : Int} (p : P9 w b k d s r x y f a h) (hb : Below w.heap.size w w') : P9 w' b k d s r x y f a h := by
  obtain ⟨p0, p1, p2, p3, p4, p5, p6, p7, p8⟩ := p
  have hl := cell_ltL p0
  exact ⟨cb hb hl p0, cb hb hl p1, cb hb hl p2, cb hb hl p3, cb hb hl p4, cb hb hl p5, cb hb hl p6, cb hb hl p7, cb hb hl p8⟩
theorem P9.new (w : World) (T : TypeId) (k d s r : Int) (x y : Value) (f a h : Int) : P9 (w.alloc (.cells #[.int .i64 k, .int .i64 d, .int .i64 s, .int .i64 r, x, y, .int .i64 f, .int .i64 a, .int .i64 h] T)) w.heap.size k d s r x y f a h := by
  unfold P9
  simp
/-- A literal of one operation. -/
theorem ops_one (w : World) (T : TypeId) (o : Opr) (ax : Option Addr) (cx : Nat) (ay : Option Addr) (cy : Nat) (hA : OpAt w o ax cx ay cy) : OpsAt (w.alloc (.cells #[.int .i64 o.kd, .int .i64 o.bd, .int .i64 o.sg, .int .i64 o.rd, .slice ax o.xs.length cx, .slice ay o.ys.length cy, .int .i64 o.fl, .int .i64 o.wd, .int .i64 o.ht] T)) (some ⟨w.heap.size, 0, none⟩) [o] := by
  refine .inr ⟨w.heap.size, 0, rfl, fun j hj => ?_⟩
  obtain rfl : j = 0 := by simpa using hj
  show OpIn _ _ _ o
  obtain ⟨p0, p1, p2, p3, p4, p5, p6, p7, p8⟩ := P9.new w T o.kd o.bd o.sg o.rd (.slice ax o.xs.length cx) (.slice ay o.ys.length cy) o.fl o.wd o.ht
  exact ⟨p0, p1, p2, p3, p6, p7, p8, ax, cx, ay, cy, p4, p5, hA.below (below1 _ _)⟩
theorem S3new (w : World) (T : TypeId) (x y z : Value) : (w.alloc (.cells #[x, y, z] T)).cell? ⟨w.heap.size, 0, none⟩ = some x ∧ (w.alloc (.cells #[x, y, z] T)).cell? ⟨w.heap.size, 1, none⟩ = some y ∧ (w.alloc (.cells #[x, y, z] T)).cell? ⟨w.heap.size, 2, none⟩ = some z := by simp
theorem t3_below {w w' : World} {R : Nat} {x y z : Value} (h : w.cell? ⟨R, 0, none⟩ = some x ∧ w.cell? ⟨R, 1, none⟩ = some y ∧ w.cell? ⟨R, 2, none⟩ = some z) (hb : Below w.heap.size w w') : w'.cell? ⟨R, 0, none⟩ = some x ∧ w'.cell? ⟨R, 1, none⟩ = some y ∧ w'.cell? ⟨R, 2, none⟩ = some z :=
  ⟨cb hb (cell_ltL h.1) h.1, cb hb (cell_ltL h.1) h.2.1, cb hb (cell_ltL h.1) h.2.2⟩
end Go.Proofs.YtaafhjngnjjcmaaGreatDoor

/- Plans: the program's own: a plan in memory; how many tiles; where a tile stands. -/
namespace Go.Proofs.YtaafhjngnjjcmaaGreatDoor
open Go.RowKit

/-- A callee that only draws, in a second region that draws and only reads. -/
theorem calmD2 {P : Program} {f : FuncId} {args : Array Value} {u : Value} {w : World} {m n : Nat} (h : Calls P f args (w.drewN (m + n)) fun e w' => e = .returned u ∧ Drew (w.drewN (m + n)) w') :
    Calls P f args (w.drewN (m + n)) fun e w'' => e = .returned u ∧ ∃ k, w'' = w.drewN (m + k) :=
  h.mono fun e w' ⟨he, k, hk⟩ => ⟨he, n + k, by rw [hk, World.drewN_drewN, Nat.add_assoc]⟩
end Go.Proofs.YtaafhjngnjjcmaaGreatDoor
