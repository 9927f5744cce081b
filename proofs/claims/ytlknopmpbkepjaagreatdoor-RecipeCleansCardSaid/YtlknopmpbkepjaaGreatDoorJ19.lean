/- Parts, joined. -/
import Derived.Test.YtlknopmpbkepjaaGreatDoorJ14
import Derived.Test.YtlknopmpbkepjaaGreatDoorJ18
import Derived.Test.YtlknopmpbkepjaaGreatDoorJ17
import Derived.Test.YtlknopmpbkepjaaGreatDoorJ08
import Derived.Test.YtlknopmpbkepjaaGreatDoorJ11
import Derived.Test.YtlknopmpbkepjaaGreatDoorJ02
import Derived.Test.YtlknopmpbkepjaaGreatDoorJ13
import Derived.Test.YtlknopmpbkepjaaGreatDoorJ12
import Derived.Deep.RegionHeld3
import Derived.Deep.LoopGhost
import Derived.Lib.AtoiAllCases
import Derived.Lib.ParseIntBTie
import Derived.Lib.CutLaws
import Derived.Laws.RangeAny
import Derived.Shelf.Strings.Cut
/- Operations: the document's Make: what may not be. -/
namespace Go.Proofs.YtlknopmpbkepjaaGreatDoor
open Go.RowKit


/-- Five cells of a block, that may be written. -/
def S5 (w : World) (R : Nat) (v0 v1 v2 v3 v4 : Value) : Prop :=
  (w.cell? ⟨R, 0, none⟩ = some v0 ∧ w.frozen? ⟨R, 0, none⟩ = false) ∧ (w.cell? ⟨R, 1, none⟩ = some v1 ∧ w.frozen? ⟨R, 1, none⟩ = false) ∧ (w.cell? ⟨R, 2, none⟩ = some v2 ∧ w.frozen? ⟨R, 2, none⟩ = false) ∧
  (w.cell? ⟨R, 3, none⟩ = some v3 ∧ w.frozen? ⟨R, 3, none⟩ = false) ∧ (w.cell? ⟨R, 4, none⟩ = some v4 ∧ w.frozen? ⟨R, 4, none⟩ = false)
theorem S5.grown {w w' : World} {R : Nat} {v0 v1 v2 v3 v4 : Value} {row : Option Nat} (h : S5 w R v0 v1 v2 v3 v4) (g : w.grownBy w' row) (ne : some R ≠ row) : S5 w' R v0 v1 v2 v3 v4 := by
  obtain ⟨⟨a, a'⟩, ⟨b, b'⟩, ⟨c, c'⟩, ⟨d, d'⟩, ⟨e, e'⟩⟩ := h
  exact ⟨⟨cg g ne a, fg g ne a a'⟩, ⟨cg g ne b, fg g ne b b'⟩, ⟨cg g ne c, fg g ne c c'⟩, ⟨cg g ne d, fg g ne d d'⟩, ⟨cg g ne e, fg g ne e e'⟩⟩
theorem S5.below {w w' : World} {R : Nat} {v0 v1 v2 v3 v4 : Value} (h : S5 w R v0 v1 v2 v3 v4) (b : Below w.heap.size w w') : S5 w' R v0 v1 v2 v3 v4 := h.grown (grown_below b none) (by simp)
theorem S5.new (w : World) (T : TypeId) (v0 v1 v2 v3 v4 : Value) : S5 (w.alloc (.cells #[v0, v1, v2, v3, v4] T)) w.heap.size v0 v1 v2 v3 v4 := by
  unfold S5
  simp
theorem S5.set0 {w : World} {R : Nat} {v0 v1 v2 v3 v4 : Value} (h : S5 w R v0 v1 v2 v3 v4) (u : Value) : S5 (w.setCell ⟨R, 0, none⟩ u) R u v1 v2 v3 v4 := by
  obtain ⟨⟨a, a'⟩, ⟨b, b'⟩, ⟨c, c'⟩, ⟨d, d'⟩, ⟨e, e'⟩⟩ := h
  unfold S5
  simp only [World.frozen?_setCell]
  refine ⟨⟨World.cell?_setCell_same' _ _ _ (by rw [a]; rfl), a'⟩, ⟨?_, b'⟩, ⟨?_, c'⟩, ⟨?_, d'⟩, ⟨?_, e'⟩⟩ <;> rw [World.cell?_setCell_other _ _ _ _ (by intro x; simp at x)] <;> assumption
theorem S5.set1 {w : World} {R : Nat} {v0 v1 v2 v3 v4 : Value} (h : S5 w R v0 v1 v2 v3 v4) (u : Value) : S5 (w.setCell ⟨R, 1, none⟩ u) R v0 u v2 v3 v4 := by
  obtain ⟨⟨a, a'⟩, ⟨b, b'⟩, ⟨c, c'⟩, ⟨d, d'⟩, ⟨e, e'⟩⟩ := h
  unfold S5
  simp only [World.frozen?_setCell]
  refine ⟨⟨?_, a'⟩, ⟨World.cell?_setCell_same' _ _ _ (by rw [b]; rfl), b'⟩, ⟨?_, c'⟩, ⟨?_, d'⟩, ⟨?_, e'⟩⟩ <;> rw [World.cell?_setCell_other _ _ _ _ (by intro x; simp at x)] <;> assumption
theorem S5.set2 {w : World} {R : Nat} {v0 v1 v2 v3 v4 : Value} (h : S5 w R v0 v1 v2 v3 v4) (u : Value) : S5 (w.setCell ⟨R, 2, none⟩ u) R v0 v1 u v3 v4 := by
  obtain ⟨⟨a, a'⟩, ⟨b, b'⟩, ⟨c, c'⟩, ⟨d, d'⟩, ⟨e, e'⟩⟩ := h
  unfold S5
  simp only [World.frozen?_setCell]
  refine ⟨⟨?_, a'⟩, ⟨?_, b'⟩, ⟨World.cell?_setCell_same' _ _ _ (by rw [c]; rfl), c'⟩, ⟨?_, d'⟩, ⟨?_, e'⟩⟩ <;> rw [World.cell?_setCell_other _ _ _ _ (by intro x; simp at x)] <;> assumption
theorem S5.set3 {w : World} {R : Nat} {v0 v1 v2 v3 v4 : Value} (h : S5 w R v0 v1 v2 v3 v4) (u : Value) : S5 (w.setCell ⟨R, 3, none⟩ u) R v0 v1 v2 u v4 := by
  obtain ⟨⟨a, a'⟩, ⟨b, b'⟩, ⟨c, c'⟩, ⟨d, d'⟩, ⟨e, e'⟩⟩ := h
  unfold S5
  simp only [World.frozen?_setCell]
  refine ⟨⟨?_, a'⟩, ⟨?_, b'⟩, ⟨?_, c'⟩, ⟨World.cell?_setCell_same' _ _ _ (by rw [d]; rfl), d'⟩, ⟨?_, e'⟩⟩ <;> rw [World.cell?_setCell_other _ _ _ _ (by intro x; simp at x)] <;> assumption
theorem S5.set4 {w : World} {R : Nat} {v0 v1 v2 v3 v4 : Value} (h : S5 w R v0 v1 v2 v3 v4) (u : Value) : S5 (w.setCell ⟨R, 4, none⟩ u) R v0 v1 v2 v3 u := by
  obtain ⟨⟨a, a'⟩, ⟨b, b'⟩, ⟨c, c'⟩, ⟨d, d'⟩, ⟨e, e'⟩⟩ := h
  unfold S5
  simp only [World.frozen?_setCell]
  refine ⟨⟨?_, a'⟩, ⟨?_, b'⟩, ⟨?_, c'⟩, ⟨?_, d'⟩, ⟨World.cell?_setCell_same' _ _ _ (by rw [e]; rfl), e'⟩⟩ <;> rw [World.cell?_setCell_other _ _ _ _ (by intro x; simp at x)] <;> assumption
/-- All five are written. -/
theorem S5.fill {w : World} {R : Nat} {u0 u1 u2 u3 u4 : Value} (h : S5 w R u0 u1 u2 u3 u4) (v0 v1 v2 v3 v4 : Value) : S5 (((((w.setCell ⟨R, 0, none⟩ v0).setCell ⟨R, 1, none⟩ v1).setCell ⟨R, 2, none⟩ v2).setCell ⟨R, 3, none⟩ v3).setCell ⟨R, 4, none⟩ v4) R v0 v1 v2 v3 v4 :=
  ((((h.set0 v0).set1 v1).set2 v2).set3 v3).set4 v4
end Go.Proofs.YtlknopmpbkepjaaGreatDoor

/- Slices of records that a call made: each of so many cells. No number of the program stands in it. -/
namespace Go.Proofs.YtlknopmpbkepjaaGreatDoor
open Go.RowKit


def recAt (us : List (List Value)) (j i : Nat) : Value := (us.getD j []).getD i undef
/-- A slice of records that the call itself made. -/
def OwnRec (T : TypeId) (k : Nat) (w : World) (base : Nat) (v : Value) (us : List (List Value)) : Prop := w.ownsRow base T k v us.length us.flatten ∧ ∀ u ∈ us, u.length = k
theorem flat_get {k : Nat} : ∀ {us : List (List Value)}, (∀ u ∈ us, u.length = k) → ∀ {j i : Nat}, j < us.length → i < k → us.flatten[j * k + i]? = some (recAt us j i)
  | [], _, _, _, h, _ => absurd h (Nat.not_lt_zero _)
  | u :: us, hu, 0, i, _, hi => by
    have e := hu u List.mem_cons_self
    rw [Nat.zero_mul, Nat.zero_add, List.flatten_cons, List.getElem?_append_left (by omega), List.getElem?_eq_getElem (by omega)]
    show _ = some (u.getD i undef)
    rw [List.getD_eq_getElem?_getD, List.getElem?_eq_getElem (by omega)]
    rfl
  | u :: us, hu, j + 1, i, hj, hi => by
    have e := hu u List.mem_cons_self
    have ih := flat_get (fun v hv => hu v (List.mem_cons_of_mem _ hv)) (j := j) (i := i) (by simpa using hj) hi
    rw [List.flatten_cons, List.getElem?_append_right (by rw [e, Nat.add_mul]; omega), e, show (j + 1) * k + i - k = j * k + i by rw [Nat.add_mul]; omega]
    exact ih
theorem recAt_old {us : List (List Value)} {u : List Value} {j i : Nat} (h : j < us.length) : recAt (us ++ [u]) j i = recAt us j i := by
  have e : (us ++ [u]).getD j [] = us.getD j [] := by rw [List.getD_eq_getElem?_getD, List.getD_eq_getElem?_getD, List.getElem?_append_left h]
  unfold recAt
  rw [e]
theorem recAt_new (us : List (List Value)) (u : List Value) (i : Nat) : recAt (us ++ [u]) us.length i = u.getD i undef := by
  have e : (us ++ [u]).getD us.length [] = u := by
    rw [List.getD_eq_getElem?_getD, List.getElem?_append_right (Nat.le_refl _), Nat.sub_self]
    rfl
  unfold recAt
  rw [e]
theorem OwnRec.nil (T : TypeId) (k : Nat) (w : World) (base : Nat) : OwnRec T k w base (.slice none 0 0) [] := ⟨World.ownsRow_nil _ _ _ _, fun _ h => by cases h⟩
theorem recs_below {T : TypeId} {w w' : World} {base k : Nat} {v : Value} {n : Nat} {xs : List Value} (h : w.ownsRow base T k v n xs) (hb : Below w.heap.size w w') : w'.ownsRow base T k v n xs := by
  refine ⟨h.1, ?_⟩
  rcases h.2 with h2 | ⟨g, cap, cur, hv, hB, hg, r⟩
  · exact .inl h2
  · refine .inr ⟨g, cap, cur, hv, hB, ?_, r⟩
    have hlt : g < w.heap.size := by
      rcases Nat.lt_or_ge g w.heap.size with hlt | hge
      · exact hlt
      · rw [Array.getElem?_eq_none hge] at hg; cases hg
    rw [hb.block g hlt]; exact hg
theorem OwnRec.below {T : TypeId} {k : Nat} {w w' : World} {base : Nat} {v : Value} {us : List (List Value)} (h : OwnRec T k w base v us) (hb : Below w.heap.size w w') : OwnRec T k w' base v us := ⟨recs_below h.1 hb, h.2⟩
theorem OwnRec.mono {T : TypeId} {k : Nat} {w : World} {base base' : Nat} {v : Value} {us : List (List Value)} (h : OwnRec T k w base v us) (hb : base' ≤ base) : OwnRec T k w base' v us := ⟨own_mono h.1 hb, h.2⟩
/-- One record is appended. -/
theorem OwnRec.more {T : TypeId} {k : Nat} {w : World} {base n : Nat} {v : Value} {us : List (List Value)} {u : List Value} (hu : ∀ x ∈ us, x.length = k) (hk : u.length = k) (hn : us.length + 1 = n) (h : w.ownsRow base T k v n (us.flatten ++ u)) : OwnRec T k w base v (us ++ [u]) := by
  subst hn
  refine ⟨?_, fun x hx => ?_⟩
  · rw [List.length_append, List.flatten_append]
    simpa using h
  · rcases List.mem_append.1 hx with hx | hx
    · exact hu x hx
    · rw [List.mem_singleton] at hx; rw [hx]; exact hk
/-- What it reads as. -/
theorem OwnRec.read {T : TypeId} {k : Nat} {w : World} {base : Nat} {v : Value} {us : List (List Value)} (h : OwnRec T k w base v us) (h0 : us ≠ []) :
    ∃ g cap, v = .slice (some ⟨g, 0, none⟩) us.length cap ∧ base ≤ g ∧ g < w.heap.size ∧ us.length ≤ cap ∧ ∀ j, j < us.length → ∀ i, i < k → w.cell? ⟨g, j * k + i, none⟩ = some (recAt us j i) := by
  obtain ⟨h2, h3⟩ := h
  have hl : 0 < us.length := List.length_pos_iff.2 h0
  obtain ⟨g, cap, hv, hB, hlt, hc⟩ : ∃ g cap, v = .slice (some ⟨g, 0, none⟩) us.length cap ∧ base ≤ g ∧ g < w.heap.size ∧ us.length ≤ cap := by
    rcases h2.2 with ⟨_, h0⟩ | ⟨g, cap, cur, hv, hB, hg, hn, _⟩
    · omega
    · refine ⟨g, cap, hv, hB, ?_, hn⟩
      rcases Nat.lt_or_ge g w.heap.size with hlt | hge
      · exact hlt
      · rw [Array.getElem?_eq_none hge] at hg; cases hg
  subst hv
  refine ⟨g, cap, rfl, hB, hlt, hc, fun j hj i hi => ?_⟩
  have e1 := World.ownsRow.cells h2 (g := g) rfl _ _ (flat_get h3 hj hi)
  rw [addr_add, Nat.zero_add] at e1
  exact e1
/-- Its form. -/
theorem OwnRec.form {T : TypeId} {k : Nat} {w : World} {base n : Nat} {v : Value} {us : List (List Value)} (h : OwnRec T k w base v us) (hn : us.length = n) : ∃ ad cap, v = .slice ad n cap ∧ n ≤ cap ∧ (ad = none → cap = 0) := by
  subst hn
  rcases h.1.2 with ⟨hv, h0⟩ | ⟨g, cap, cur, hv, _, _, hn, _⟩
  · exact ⟨none, 0, by rw [hv, h0], by omega, fun _ => rfl⟩
  · exact ⟨_, cap, hv, hn, fun e => by cases e⟩
theorem new_list (w : World) (l : List Value) (t : TypeId) : ∀ j x, l[j]? = some x → (w.alloc (.cells l.toArray t)).cell? ((⟨w.heap.size, 0, none⟩ : Addr).add j) = some x := by
  intro j x h
  rw [addr_add, Nat.zero_add]
  unfold World.cell?
  rw [heap_alloc_new]
  simp [h]
end Go.Proofs.YtlknopmpbkepjaaGreatDoor

/- Operations: what the laws make of them: as the document has them; little ones. -/
namespace Go.Proofs.YtlknopmpbkepjaaGreatDoor
open Go.RowKit


/-- One operation, as the document has it: the same cells. -/
theorem ref12_any (o : Opr) (ax : Option Addr) (cx : Nat) (ay : Option Addr) (cy : Nat) (w : World) :
    Calls Tryz.prog 9 #[opV o ax cx ay cy] w fun e w' => e = .returned (opV o ax cx ay cy) ∧ Below w.heap.size w w' := by
  unfold opV
  obtain ⟨kd, bd, sg, rd, xs, ys, fl, wd, ht⟩ := o
  simp only
  generalize xs.length = nx at *
  generalize ys.length = ny at *
  go_enter Tryz.func9, Tryz.ntmps9
  go_wp2
  exact bodyPost_ret (v := .agg #[.int .i64 kd, .int .i64 bd, .int .i64 sg, .int .i64 rd, .slice ax nx cx, .slice ay ny cy, .int .i64 fl, .int .i64 wd, .int .i64 ht]) (by simp [results, Tryz.results9, go_sem]) rfl ⟨rfl, ba (below1 _ _) _⟩
/-- What the laws don't play. -/
def BigO (s : Int) (o : Opr) : Prop := 40 < o.xs.length ∨ 40 < o.ys.length ∨ (262144 < o.sg ∧ o.sg ≤ 4194304) ∨ (20 < o.rd ∧ o.rd < 512) ∨ (s < o.wd ∧ o.wd ≤ 65536) ∨ (s < o.ht ∧ o.ht ≤ 65536)
def bigB (s : Int) (L : List Opr) : Nat → Bool
  | 0 => false
  | k + 1 => bigB s L k || (decide (40 < (opAt L k).xs.length) || decide (40 < (opAt L k).ys.length) || decide (262144 < (opAt L k).sg ∧ (opAt L k).sg ≤ 4194304) || decide (20 < (opAt L k).rd ∧ (opAt L k).rd < 512) || decide (s < (opAt L k).wd ∧ (opAt L k).wd ≤ 65536) || decide (s < (opAt L k).ht ∧ (opAt L k).ht ≤ 65536))
theorem bigB_step (s : Int) (L : List Opr) (k : Nat) : bigB s L (k + 1) = true ↔ bigB s L k = true ∨ BigO s (opAt L k) := by
  show (bigB s L k || _) = true ↔ _
  unfold BigO
  simp only [Bool.or_eq_true, decide_eq_true_eq, or_assoc]
theorem bigB_stays {s : Int} {L : List Opr} {k : Nat} (h : bigB s L k = true) {n : Nat} (hk : k ≤ n) : bigB s L n = true := by
  induction n with
  | zero => rw [← Nat.le_zero.1 hk]; exact h
  | succ n ih =>
    rcases Nat.lt_or_ge n k with q | q
    · rw [show n + 1 = k by omega]; exact h
    · exact (bigB_step s L n).2 (.inl (ih q))
theorem bigB_no {s : Int} {L : List Opr} {n : Nat} (h : bigB s L n = false) {k : Nat} (hk : k < n) : ¬ BigO s (opAt L k) := by
  intro q
  have := bigB_stays ((bigB_step s L k).2 (.inr q)) hk
  rw [h] at this
  cases this
end Go.Proofs.YtlknopmpbkepjaaGreatDoor

/- Blocks of nine cells, and of three. -/
namespace Go.Proofs.YtlknopmpbkepjaaGreatDoor
open Go.RowKit


/-- The nine cells of an operation at the head of a block. -/
def P9 (w : World) (b : Nat) (k d s r : Int) (x y : Value) (f a h : Int) : Prop :=
  w.cell? ⟨b, 0, none⟩ = some (.int .i64 k) ∧ w.cell? ⟨b, 1, none⟩ = some (.int .i64 d) ∧ w.cell? ⟨b, 2, none⟩ = some (.int .i64 s) ∧ w.cell? ⟨b, 3, none⟩ = some (.int .i64 r) ∧ w.cell? ⟨b, 4, none⟩ = some x ∧ w.cell? ⟨b, 5, none⟩ = some y ∧
  w.cell? ⟨b, 6, none⟩ = some (.int .i64 f) ∧ w.cell? ⟨b, 7, none⟩ = some (.int .i64 a) ∧ w.cell? ⟨b, 8, none⟩ = some (.int .i64 h)
theorem P9.below {w w' : World} {b : Nat} {k d s r : Int} {x y : Value} {f a h : Int} (p : P9 w b k d s r x y f a h) (hb : Below w.heap.size w w') : P9 w' b k d s r x y f a h := by
  obtain ⟨p0, p1, p2, p3, p4, p5, p6, p7, p8⟩ := p
  have hl := cell_ltL p0
  exact ⟨cb hb hl p0, cb hb hl p1, cb hb hl p2, cb hb hl p3, cb hb hl p4, cb hb hl p5, cb hb hl p6, cb hb hl p7, cb hb hl p8⟩
theorem P9.new (w : World) (T : TypeId) (k d s r : Int) (x y : Value) (f a h : Int) : P9 (w.alloc (.cells #[.int .i64 k, .int .i64 d, .int .i64 s, .int .i64 r, x, y, .int .i64 f, .int .i64 a, .int .i64 h] T)) w.heap.size k d s r x y f a h := by
  unfold P9
  simp
/-- A literal of one operation. -/
theorem ops_one (w : World) (T : TypeId) (o : Opr) (ax : Option Addr) (cx : Nat) (ay : Option Addr) (cy : Nat) (hA : OpAt w o ax cx ay cy) : OpsAt (w.alloc (.cells #[.int .i64 o.kd, .int .i64 o.bd, .int .i64 o.sg, .int .i64 o.rd, .slice ax o.xs.length cx, .slice ay o.ys.length cy, .int .i64 o.fl, .int .i64 o.wd, .int .i64 o.ht] T)) (some ⟨w.heap.size, 0, none⟩) [o] := by
  refine .inr ⟨w.heap.size, 0, rfl, fun j hj => ?_⟩
  obtain rfl : j = 0 := by simpa using hj
  show OpIn _ _ _ o
  obtain ⟨p0, p1, p2, p3, p4, p5, p6, p7, p8⟩ := P9.new w T o.kd o.bd o.sg o.rd (.slice ax o.xs.length cx) (.slice ay o.ys.length cy) o.fl o.wd o.ht
  exact ⟨p0, p1, p2, p3, p6, p7, p8, ax, cx, ay, cy, p4, p5, hA.below (below1 _ _)⟩
theorem S3new (w : World) (T : TypeId) (x y z : Value) : (w.alloc (.cells #[x, y, z] T)).cell? ⟨w.heap.size, 0, none⟩ = some x ∧ (w.alloc (.cells #[x, y, z] T)).cell? ⟨w.heap.size, 1, none⟩ = some y ∧ (w.alloc (.cells #[x, y, z] T)).cell? ⟨w.heap.size, 2, none⟩ = some z := by simp
theorem t3_below {w w' : World} {R : Nat} {x y z : Value} (h : w.cell? ⟨R, 0, none⟩ = some x ∧ w.cell? ⟨R, 1, none⟩ = some y ∧ w.cell? ⟨R, 2, none⟩ = some z) (hb : Below w.heap.size w w') : w'.cell? ⟨R, 0, none⟩ = some x ∧ w'.cell? ⟨R, 1, none⟩ = some y ∧ w'.cell? ⟨R, 2, none⟩ = some z :=
  ⟨cb hb (cell_ltL h.1) h.1, cb hb (cell_ltL h.1) h.2.1, cb hb (cell_ltL h.1) h.2.2⟩
end Go.Proofs.YtlknopmpbkepjaaGreatDoor

/- What stands beyond the edge: the laws. -/
namespace Go.Proofs.YtlknopmpbkepjaaGreatDoor
open Go.RowKit

/-- A callee that leaves the world as it is, in a region that draws and only reads. -/
theorem calm {P : Program} {f : FuncId} {args : Array Value} {u : Value} (h : ∀ w : World, Calls P f args w fun e w' => e = .returned u ∧ w = w') (w : World) (n : Nat) :
    Calls P f args (w.drewN n) fun e w'' => e = .returned u ∧ ∃ m, w'' = w.drewN m :=
  (h _).mono fun _ _ q => ⟨q.1, n, q.2.symm⟩
end Go.Proofs.YtlknopmpbkepjaaGreatDoor

/- Operations as texts: the document's Word. -/
namespace Go.Proofs.YtlknopmpbkepjaaGreatDoor
open Go.RowKit


theorem txt_isEmpty {l : List Int} (h : Byts l) : (txt l).toList.isEmpty = l.isEmpty := by rw [byt_empty, byt_txt h]
theorem byts_sgn (k : Int) : Byts (sgnB k) := fun _ h => sgn_in h
theorem byts_bord (k : Int) : Byts (bordB k) := fun _ h => by have := bord_mem h; omega
theorem byts_filt (k : Int) : Byts (filtB k) := fun _ h => by have := filt_mem h; omega
theorem byts_mul : Byts mulB := fun _ h => by have := mul_mem h; omega
theorem byts_app {a b : List Int} (ha : Byts a) (hb : Byts b) : Byts (a ++ b) := fun x h => (List.mem_append.1 h).elim (ha x) (hb x)
theorem byts_one {c : Int} (h0 : 0 ≤ c) (h1 : c ≤ 255) : Byts [c] := fun x h => by rw [List.mem_singleton] at h; omega
theorem bord_ne {b : Int} (h : 0 ≤ b ∧ b ≤ 2) : bordB b ≠ [] := by
  rcases (show b = 0 ∨ b = 1 ∨ b = 2 by omega) with rfl | rfl | rfl <;> decide
theorem filt_ne {b : Int} (h : 0 ≤ b ∧ b ≤ 2) : filtB b ≠ [] := by
  rcases (show b = 0 ∨ b = 1 ∨ b = 2 by omega) with rfl | rfl | rfl <;> decide
theorem bord_nil {b : Int} (h : b < 0 ∨ 2 < b) : bordB b = [] := by unfold bordB; rw [if_neg (by omega), if_neg (by omega), if_neg (by omega)]
theorem filt_nil {b : Int} (h : b < 0 ∨ 2 < b) : filtB b = [] := by unfold filtB; rw [if_neg (by omega), if_neg (by omega), if_neg (by omega)]
theorem isEmpty_no {l : List Int} (h : Byts l) (hn : l ≠ []) : (txt l).toList.isEmpty = false := by
  rw [txt_isEmpty h]
  cases l with
  | nil => exact absurd rfl hn
  | cons a l => rfl
/-- A word's text out of its parts. -/
theorem word_txt (o : Opr) : txt (sgnB o.kd) ++ txt (bodyB o) ++ ⟨#[124]⟩ ++ txt (bordB o.bd) = txt (wordB o) := by
  rw [show (⟨#[124]⟩ : ByteArray) = txt [124] from rfl, txt_app (byts_sgn _) (byts_body o), txt_app (byts_app (byts_sgn _) (byts_body o)) (byts_one (by decide) (by decide)), txt_app (byts_app (byts_app (byts_sgn _) (byts_body o)) (byts_one (by decide) (by decide))) (byts_bord _)]
  congr 1
  unfold wordB
  simp
/-- What Word answers. -/
def wordT (o : Opr) : ByteArray := txt (if mayW o = true then wordB o else [])
end Go.Proofs.YtlknopmpbkepjaaGreatDoor

/- Operations as texts: the program's signs and names; cutting. -/
namespace Go.Proofs.YtlknopmpbkepjaaGreatDoor
open Go.RowKit


def sgnS : ByteArray := ⟨#[207, 131, 226, 150, 161, 226, 138, 151, 226, 134, 148]⟩
theorem sgn_step0 : Utf8.decode sgnS 0 = (963, 2) := by decide +kernel
theorem sgn_step1 : Utf8.decode sgnS 2 = (9633, 3) := by decide +kernel
theorem sgn_step2 : Utf8.decode sgnS 5 = (8855, 3) := by decide +kernel
theorem sgn_step3 : Utf8.decode sgnS 8 = (8596, 3) := by decide +kernel
/-- Where the j-th sign stands. -/
def posT (j : Nat) : Nat := 3 * j - 1
theorem sgn_next (w : World) (j : Nat) (h : j < 4) (ty : TypeId) : (Instr.next (.pointer (some ⟨w.heap.size, 0, none⟩)) true ty).run Tryz.prog (w.iter sgnS (posT j)) = .ok (.tuple #[.bool true, .int .i64 (posT j), .int .i32 (runeB j)]) (w.iter sgnS (posT (j + 1))) := by
  have hz : sgnS.size = 11 := rfl
  rw [run_next_any w sgnS (posT j) ty (by rw [hz]; unfold posT; omega)]
  rcases (show j = 0 ∨ j = 1 ∨ j = 2 ∨ j = 3 by omega) with rfl | rfl | rfl | rfl
  · rw [show posT 0 = 0 from rfl, sgn_step0]; rfl
  · rw [show posT 1 = 2 from rfl, sgn_step1]; rfl
  · rw [show posT 2 = 5 from rfl, sgn_step2]; rfl
  · rw [show posT 3 = 8 from rfl, sgn_step3]; rfl
theorem sgn_last (w : World) (ty : TypeId) : (Instr.next (.pointer (some ⟨w.heap.size, 0, none⟩)) true ty).run Tryz.prog (w.iter sgnS (posT 4)) = .ok (.tuple #[.bool false]) (w.iter sgnS (posT 4)) := run_next_end w sgnS (posT 4) ty (by decide)
theorem iter_below (w : World) (s : ByteArray) (p : Nat) : Below w.heap.size w (w.iter s p) := below1 _ _
/-- The program's Sign. -/
theorem sign_any (k : Int) (w : World) :
    Calls Tryz.prog 21 #[.int .i64 k] w fun e w' => e = .returned (.int .i32 (runeB k)) ∧ Below w.heap.size w w' := by
  obtain ⟨R, hR⟩ : ∃ R, runeB k = R := ⟨_, rfl⟩
  rw [hR]
  have HR := hide hR
  clear hR
  have HS := hide (show sgnS = ⟨#[207, 131, 226, 150, 161, 226, 138, 151, 226, 134, 148]⟩ from rfl)
  have hn := sgn_next w
  have hl := sgn_last w
  rw [HS.out] at hn hl
  have IB := iter_below w ⟨#[207, 131, 226, 150, 161, 226, 138, 151, 226, 134, 148]⟩
  have HN := hide hn
  have HL := hide hl
  have HB := hide IB
  clear hn hl IB HS
  go_enter Tryz.func21, Tryz.ntmps21
  go_wp2
  go_loopw [3] (fun o wr => ∃ j : Nat, j ≤ 4 ∧ o = .int .i64 (j : Int) ∧ Hid (∀ i : Nat, i < j → k ≠ (i : Int)) ∧ wr = w.iter ⟨#[207, 131, 226, 150, 161, 226, 138, 151, 226, 134, 148]⟩ (posT j)) (fun o _ => 4 - (intOf o).toNat)
  case atStart => exact ⟨0, by omega, rfl, hide (fun i hi => absurd hi (Nat.not_lt_zero _)), rfl⟩
  case round =>
    obtain ⟨j, hj, rfl, hne, rfl⟩ := hrel
    by_cases hlt : j < 4
    · have hnx := HN.out j hlt
      by_cases hk : (j : Int) = k
      · subst hk
        have HE := hide (HB.out (posT (j + 1)))
        rw [HR.out] at hnx
        clear HN HL HB hne HR
        generalize posT (j + 1) = p1 at *
        generalize posT j = p0 at *
        go_wp2
        go_ret
        exact ⟨rfl, HE.out⟩
      · have hq : ((j : Int) == k) = false := beq_eq_false_iff_ne.2 hk
        have HX := hide (show ∀ i : Nat, i < j + 1 → k ≠ (i : Int) from fun i hi => by
          by_cases e : i = j
          · subst e; exact fun q => hk q.symm
          · exact hne.out i (by omega))
        clear HL HB hne
        obtain ⟨R1, h1⟩ : ∃ R1, runeB (j : Int) = R1 := ⟨_, rfl⟩
        rw [h1] at hnx
        clear h1
        go_wp2
        go_roundw
        case rel => exact ⟨j + 1, by omega, by go_num, HX, rfl⟩
        case measure => simp [intOf]; omega
    · obtain rfl : j = 4 := by omega
      have hnx := HL.out
      have hz : R = 0 := HR.out.symm.trans (rune_at.2 (by
        have h0 := hne.out 0 (by omega)
        have h1 := hne.out 1 (by omega)
        have h2 := hne.out 2 (by omega)
        have h3 := hne.out 3 (by omega)
        omega))
      have HE := hide (HB.out (posT 4))
      subst hz
      clear HN HL HB hne HR
      go_wp2
      go_ret
      exact ⟨rfl, HE.out⟩
/-- Names, as their bytes. -/
theorem name_txt (p : Int) : nameE p = .string (txt (bordB p)) := by
  unfold nameE bordB
  by_cases h0 : p = 0
  · rw [if_pos h0, if_pos h0]; rfl
  by_cases h1 : p = 1
  · rw [if_neg h0, if_pos h1, if_neg h0, if_pos h1]; rfl
  by_cases h2 : p = 2
  · rw [if_neg h0, if_neg h1, if_pos h2, if_neg h0, if_neg h1, if_pos h2]; rfl
  · rw [if_neg h0, if_neg h1, if_neg h2, if_neg h0, if_neg h1, if_neg h2]; rfl
theorem bname_any (p : Int) (w : World) (hk : NamesE w) :
    Calls Tryz.prog 16 #[.int .i64 p] w fun e w' => e = .returned (.string (txt (bordB p))) ∧ w = w' := by
  rw [← name_txt]
  exact nameE_any p w hk
theorem fname_any (f : Int) (w : World) (hk : Kinds w) :
    Calls Tryz.prog 22 #[.int .i64 f] w fun e w' => e = .returned (.string (txt (filtB f))) ∧ w = w' := by
  obtain ⟨k0, _, k1, _, k2, _⟩ := hk
  by_cases h0 : f = 0
  · subst h0
    have C := fun w => known_yes 0 (by omega) (by omega) w
    go_enter Tryz.func22, Tryz.ntmps22
    go_wp2_with (go_at_call 28; (with_reducible refine (C _).mono ?_); rintro e w1 ⟨rfl, rfl⟩)
    go_ret
    exact ⟨rfl, rfl⟩
  by_cases h1 : f = 1
  · subst h1
    have C := fun w => known_yes 1 (by omega) (by omega) w
    go_enter Tryz.func22, Tryz.ntmps22
    go_wp2_with (go_at_call 28; (with_reducible refine (C _).mono ?_); rintro e w1 ⟨rfl, rfl⟩)
    go_ret
    exact ⟨rfl, rfl⟩
  by_cases h2 : f = 2
  · subst h2
    have C := fun w => known_yes 2 (by omega) (by omega) w
    go_enter Tryz.func22, Tryz.ntmps22
    go_wp2_with (go_at_call 28; (with_reducible refine (C _).mono ?_); rintro e w1 ⟨rfl, rfl⟩)
    go_ret
    exact ⟨rfl, rfl⟩
  · have C := fun w => known_no f (by omega) w
    rw [filt_nil (by omega), txt_nil]
    clear h0 h1 h2 k0 k1 k2
    go_enter Tryz.func22, Tryz.ntmps22
    go_wp2_with (go_at_call 28; (with_reducible refine (C _).mono ?_); rintro e w1 ⟨rfl, rfl⟩)
    go_ret
    exact ⟨rfl, rfl⟩
end Go.Proofs.YtlknopmpbkepjaaGreatDoor
