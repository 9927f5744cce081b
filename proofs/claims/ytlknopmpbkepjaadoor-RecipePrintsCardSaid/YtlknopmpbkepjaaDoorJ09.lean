/- Parts, joined. -/
import Derived.Test.YtlknopmpbkepjaaDoorJ08
import Derived.Test.YtlknopmpbkepjaaDoorJ02
import Derived.Test.YtlknopmpbkepjaaDoorJ01
import Derived.Test.YtlknopmpbkepjaaDoorJ06
import Derived.Test.YtlknopmpbkepjaaDoorJ05
import Derived.Test.YtlknopmpbkepjaaDoorProg
import Derived.IntWalk
import Derived.Deep.LoopGhost
import Derived.Deep.RegionHeld3
import Derived.Deep.QuietTactic
import Derived.BigQuiet
import Derived.Lib.LazyBuf
import Derived.Shelf.SlSortCmp.Insertion
import Derived.Sort.Statements
import Derived.Shelf.Bits.Mul64
import Derived.Shelf.SlSortCmp.Kit1
import Derived.Shelf.SlLaysF
import Derived.Shelf.SlSortCmp.Whole1
import Derived.Laws.FloatArith
import Derived.RowKit
import Derived.Deep.DeepCutAuto
import Derived.Laws.Externs
import Derived.Shelf.Spec.BitsCarry
import Derived.WalkLawsBesides
import Derived.Shelf.Small.Bits
import Derived.Deep.CutBlock
import Derived.Laws.OwnMore
/- Operations: the document's Make: what may not be. -/
namespace Go.Proofs.YtlknopmpbkepjaaDoor
open Go.RowKit


/-- Five cells of a block, that may be written. -/
def S5 (w : World) (R : Nat) (v0 v1 v2 v3 v4 : Value) : Prop :=
  (w.cell? ⟨R, 0, none⟩ = some v0 ∧ w.frozen? ⟨R, 0, none⟩ = false) ∧ (w.cell? ⟨R, 1, none⟩ = some v1 ∧ w.frozen? ⟨R, 1, none⟩ = false) ∧ (w.cell? ⟨R, 2, none⟩ = some v2 ∧ w.frozen? ⟨R, 2, none⟩ = false) ∧
  (w.cell? ⟨R, 3, none⟩ = some v3 ∧ w.frozen? ⟨R, 3, none⟩ = false) ∧ (w.cell? ⟨R, 4, none⟩ = some v4 ∧ w.frozen? ⟨R, 4, none⟩ = false)
theorem S5.grown {w w' : World} {R : Nat} {v0 v1 v2 v3 v4 : Value} {row : Option Nat} (h : S5 w R v0 v1 v2 v3 v4) (g : w.grownBy w' row) (ne : some R ≠ row) : S5 w' R v0 v1 v2 v3 v4 := by
  obtain ⟨⟨a, a'⟩, ⟨b, b'⟩, ⟨c, c'⟩, ⟨d, d'⟩, ⟨e, e'⟩⟩ := h
  exact ⟨⟨cg g ne a, fg g ne a a'⟩, ⟨cg g ne b, fg g ne b b'⟩, ⟨cg g ne c, fg g ne c c'⟩, ⟨cg g ne d, fg g ne d d'⟩, ⟨cg g ne e, fg g ne e e'⟩⟩
theorem S5.below {w w' : World} {R : Nat} {v0 v1 v2 v3 v4 : Value} (h : S5 w R v0 v1 v2 v3 v4) (b : Below w.heap.size w w') : S5 w' R v0 v1 v2 v3 v4 := h.grown (grown_below b none) (by simp)
theorem S5.new (w : World) (T : TypeId) (v0 v1 v2 v3 v4 : Value) : S5 (w.alloc (.cells #[v0, v1, v2, v3, v4] T)) w.heap.size v0 v1 v2 v3 v4 := by
  unfold S5
  simp
theorem S5.set0 {w : World} {R : Nat} {v0 v1 v2 v3 v4 : Value} (h : S5 w R v0 v1 v2 v3 v4) (u : Value) : S5 (w.setCell ⟨R, 0, none⟩ u) R u v1 v2 v3 v4 := by
  obtain ⟨⟨a, a'⟩, ⟨b, b'⟩, ⟨c, c'⟩, ⟨d, d'⟩, ⟨e, e'⟩⟩ := h
  unfold S5
  simp only [World.frozen?_setCell]
  refine ⟨⟨World.cell?_setCell_same' _ _ _ (by rw [a]; rfl), a'⟩, ⟨?_, b'⟩, ⟨?_, c'⟩, ⟨?_, d'⟩, ⟨?_, e'⟩⟩ <;> rw [World.cell?_setCell_other _ _ _ _ (by intro x; simp at x)] <;> assumption
theorem S5.set1 {w : World} {R : Nat} {v0 v1 v2 v3 v4 : Value} (h : S5 w R v0 v1 v2 v3 v4) (u : Value) : S5 (w.setCell ⟨R, 1, none⟩ u) R v0 u v2 v3 v4 := by
  obtain ⟨⟨a, a'⟩, ⟨b, b'⟩, ⟨c, c'⟩, ⟨d, d'⟩, ⟨e, e'⟩⟩ := h
  unfold S5
  simp only [World.frozen?_setCell]
  refine ⟨⟨?_, a'⟩, ⟨World.cell?_setCell_same' _ _ _ (by rw [b]; rfl), b'⟩, ⟨?_, c'⟩, ⟨?_, d'⟩, ⟨?_, e'⟩⟩ <;> rw [World.cell?_setCell_other _ _ _ _ (by intro x; simp at x)] <;> assumption
theorem S5.set2 {w : World} {R : Nat} {v0 v1 v2 v3 v4 : Value} (h : S5 w R v0 v1 v2 v3 v4) (u : Value) : S5 (w.setCell ⟨R, 2, none⟩ u) R v0 v1 u v3 v4 := by
  obtain ⟨⟨a, a'⟩, ⟨b, b'⟩, ⟨c, c'⟩, ⟨d, d'⟩, ⟨e, e'⟩⟩ := h
  unfold S5
  simp only [World.frozen?_setCell]
  refine ⟨⟨?_, a'⟩, ⟨?_, b'⟩, ⟨World.cell?_setCell_same' _ _ _ (by rw [c]; rfl), c'⟩, ⟨?_, d'⟩, ⟨?_, e'⟩⟩ <;> rw [World.cell?_setCell_other _ _ _ _ (by intro x; simp at x)] <;> assumption
theorem S5.set3 {w : World} {R : Nat} {v0 v1 v2 v3 v4 : Value} (h : S5 w R v0 v1 v2 v3 v4) (u : Value) : S5 (w.setCell ⟨R, 3, none⟩ u) R v0 v1 v2 u v4 := by
  obtain ⟨⟨a, a'⟩, ⟨b, b'⟩, ⟨c, c'⟩, ⟨d, d'⟩, ⟨e, e'⟩⟩ := h
  unfold S5
  simp only [World.frozen?_setCell]
  refine ⟨⟨?_, a'⟩, ⟨?_, b'⟩, ⟨?_, c'⟩, ⟨World.cell?_setCell_same' _ _ _ (by rw [d]; rfl), d'⟩, ⟨?_, e'⟩⟩ <;> rw [World.cell?_setCell_other _ _ _ _ (by intro x; simp at x)] <;> assumption
theorem S5.set4 {w : World} {R : Nat} {v0 v1 v2 v3 v4 : Value} (h : S5 w R v0 v1 v2 v3 v4) (u : Value) : S5 (w.setCell ⟨R, 4, none⟩ u) R v0 v1 v2 v3 u := by
  obtain ⟨⟨a, a'⟩, ⟨b, b'⟩, ⟨c, c'⟩, ⟨d, d'⟩, ⟨e, e'⟩⟩ := h
  unfold S5
  simp only [World.frozen?_setCell]
  refine ⟨⟨?_, a'⟩, ⟨?_, b'⟩, ⟨?_, c'⟩, ⟨?_, d'⟩, ⟨World.cell?_setCell_same' _ _ _ (by rw [e]; rfl), e'⟩⟩ <;> rw [World.cell?_setCell_other _ _ _ _ (by intro x; simp at x)] <;> assumption
/-- All five are written. -/
theorem S5.fill {w : World} {R : Nat} {u0 u1 u2 u3 u4 : Value} (h : S5 w R u0 u1 u2 u3 u4) (v0 v1 v2 v3 v4 : Value) : S5 (((((w.setCell ⟨R, 0, none⟩ v0).setCell ⟨R, 1, none⟩ v1).setCell ⟨R, 2, none⟩ v2).setCell ⟨R, 3, none⟩ v3).setCell ⟨R, 4, none⟩ v4) R v0 v1 v2 v3 v4 :=
  ((((h.set0 v0).set1 v1).set2 v2).set3 v3).set4 v4
theorem below_fill {a w : World} {R : Nat} (h : Below a.heap.size a w) (hR : a.heap.size ≤ R) (v0 v1 v2 v3 v4 : Value) : Below a.heap.size a (((((w.setCell ⟨R, 0, none⟩ v0).setCell ⟨R, 1, none⟩ v1).setCell ⟨R, 2, none⟩ v2).setCell ⟨R, 3, none⟩ v3).setCell ⟨R, 4, none⟩ v4) :=
  bs (bs (bs (bs (bs h hR _) hR _) hR _) hR _) hR _
def s0V : Value := .agg #[.slice none 0 0, .slice none 0 0, .int .i64 0, .int .i64 0, .int .i64 0]
end Go.Proofs.YtlknopmpbkepjaaDoor

/- Slices of records that a call made: each of so many cells. No number of the program stands in it. -/
namespace Go.Proofs.YtlknopmpbkepjaaDoor
open Go.RowKit


def recAt (us : List (List Value)) (j i : Nat) : Value := (us.getD j []).getD i undef
/-- A slice of records that the call itself made. -/
def OwnRec (T : TypeId) (k : Nat) (w : World) (base : Nat) (v : Value) (us : List (List Value)) : Prop := w.ownsRow base T k v us.length us.flatten ∧ ∀ u ∈ us, u.length = k
theorem flat_get {k : Nat} : ∀ {us : List (List Value)}, (∀ u ∈ us, u.length = k) → ∀ {j i : Nat}, j < us.length → i < k → us.flatten[j * k + i]? = some (recAt us j i)
  | [], _, _, _, h, _ => absurd h (Nat.not_lt_zero _)
  | u :: us, hu, 0, i, _, hi => by
    have e := hu u List.mem_cons_self
    rw [Nat.zero_mul, Nat.zero_add, List.flatten_cons, List.getElem?_append_left (by omega), List.getElem?_eq_getElem (by omega)]
    show _ = some (u.getD i undef)
    rw [List.getD_eq_getElem?_getD, List.getElem?_eq_getElem (by omega)]
    rfl
  | u :: us, hu, j + 1, i, hj, hi => by
    have e := hu u List.mem_cons_self
    have ih := flat_get (fun v hv => hu v (List.mem_cons_of_mem _ hv)) (j := j) (i := i) (by simpa using hj) hi
    rw [List.flatten_cons, List.getElem?_append_right (by rw [e, Nat.add_mul]; omega), e, show (j + 1) * k + i - k = j * k + i by rw [Nat.add_mul]; omega]
    exact ih
theorem recAt_old {us : List (List Value)} {u : List Value} {j i : Nat} (h : j < us.length) : recAt (us ++ [u]) j i = recAt us j i := by
  have e : (us ++ [u]).getD j [] = us.getD j [] := by rw [List.getD_eq_getElem?_getD, List.getD_eq_getElem?_getD, List.getElem?_append_left h]
  unfold recAt
  rw [e]
theorem recAt_new (us : List (List Value)) (u : List Value) (i : Nat) : recAt (us ++ [u]) us.length i = u.getD i undef := by
  have e : (us ++ [u]).getD us.length [] = u := by
    rw [List.getD_eq_getElem?_getD, List.getElem?_append_right (Nat.le_refl _), Nat.sub_self]
    rfl
  unfold recAt
  rw [e]
theorem OwnRec.nil (T : TypeId) (k : Nat) (w : World) (base : Nat) : OwnRec T k w base (.slice none 0 0) [] := ⟨World.ownsRow_nil _ _ _ _, fun _ h => by cases h⟩
theorem recs_below {T : TypeId} {w w' : World} {base k : Nat} {v : Value} {n : Nat} {xs : List Value} (h : w.ownsRow base T k v n xs) (hb : Below w.heap.size w w') : w'.ownsRow base T k v n xs := by
  refine ⟨h.1, ?_⟩
  rcases h.2 with h2 | ⟨g, cap, cur, hv, hB, hg, r⟩
  · exact .inl h2
  · refine .inr ⟨g, cap, cur, hv, hB, ?_, r⟩
    have hlt : g < w.heap.size := by
      rcases Nat.lt_or_ge g w.heap.size with hlt | hge
      · exact hlt
      · rw [Array.getElem?_eq_none hge] at hg; cases hg
    rw [hb.block g hlt]; exact hg
theorem OwnRec.below {T : TypeId} {k : Nat} {w w' : World} {base : Nat} {v : Value} {us : List (List Value)} (h : OwnRec T k w base v us) (hb : Below w.heap.size w w') : OwnRec T k w' base v us := ⟨recs_below h.1 hb, h.2⟩
theorem OwnRec.mono {T : TypeId} {k : Nat} {w : World} {base base' : Nat} {v : Value} {us : List (List Value)} (h : OwnRec T k w base v us) (hb : base' ≤ base) : OwnRec T k w base' v us := ⟨own_mono h.1 hb, h.2⟩
/-- One record is appended. -/
theorem OwnRec.more {T : TypeId} {k : Nat} {w : World} {base n : Nat} {v : Value} {us : List (List Value)} {u : List Value} (hu : ∀ x ∈ us, x.length = k) (hk : u.length = k) (hn : us.length + 1 = n) (h : w.ownsRow base T k v n (us.flatten ++ u)) : OwnRec T k w base v (us ++ [u]) := by
  subst hn
  refine ⟨?_, fun x hx => ?_⟩
  · rw [List.length_append, List.flatten_append]
    simpa using h
  · rcases List.mem_append.1 hx with hx | hx
    · exact hu x hx
    · rw [List.mem_singleton] at hx; rw [hx]; exact hk
/-- What it reads as. -/
theorem OwnRec.read {T : TypeId} {k : Nat} {w : World} {base : Nat} {v : Value} {us : List (List Value)} (h : OwnRec T k w base v us) (h0 : us ≠ []) :
    ∃ g cap, v = .slice (some ⟨g, 0, none⟩) us.length cap ∧ base ≤ g ∧ g < w.heap.size ∧ us.length ≤ cap ∧ ∀ j, j < us.length → ∀ i, i < k → w.cell? ⟨g, j * k + i, none⟩ = some (recAt us j i) := by
  obtain ⟨h2, h3⟩ := h
  have hl : 0 < us.length := List.length_pos_iff.2 h0
  obtain ⟨g, cap, hv, hB, hlt, hc⟩ : ∃ g cap, v = .slice (some ⟨g, 0, none⟩) us.length cap ∧ base ≤ g ∧ g < w.heap.size ∧ us.length ≤ cap := by
    rcases h2.2 with ⟨_, h0⟩ | ⟨g, cap, cur, hv, hB, hg, hn, _⟩
    · omega
    · refine ⟨g, cap, hv, hB, ?_, hn⟩
      rcases Nat.lt_or_ge g w.heap.size with hlt | hge
      · exact hlt
      · rw [Array.getElem?_eq_none hge] at hg; cases hg
  subst hv
  refine ⟨g, cap, rfl, hB, hlt, hc, fun j hj i hi => ?_⟩
  have e1 := World.ownsRow.cells h2 (g := g) rfl _ _ (flat_get h3 hj hi)
  rw [addr_add, Nat.zero_add] at e1
  exact e1
/-- Its form. -/
theorem OwnRec.form {T : TypeId} {k : Nat} {w : World} {base n : Nat} {v : Value} {us : List (List Value)} (h : OwnRec T k w base v us) (hn : us.length = n) : ∃ ad cap, v = .slice ad n cap ∧ n ≤ cap ∧ (ad = none → cap = 0) := by
  subst hn
  rcases h.1.2 with ⟨hv, h0⟩ | ⟨g, cap, cur, hv, _, _, hn, _⟩
  · exact ⟨none, 0, by rw [hv, h0], by omega, fun _ => rfl⟩
  · exact ⟨_, cap, hv, hn, fun e => by cases e⟩
theorem new_list (w : World) (l : List Value) (t : TypeId) : ∀ j x, l[j]? = some x → (w.alloc (.cells l.toArray t)).cell? ((⟨w.heap.size, 0, none⟩ : Addr).add j) = some x := by
  intro j x h
  rw [addr_add, Nat.zero_add]
  unfold World.cell?
  rw [heap_alloc_new]
  simp [h]
end Go.Proofs.YtlknopmpbkepjaaDoor

/- Operations: what the laws make of them: as the document has them; little ones. -/
namespace Go.Proofs.YtlknopmpbkepjaaDoor
open Go.RowKit

/-- The cells of an operation. -/
def opCells (o : Opr) (ax : Option Addr) (cx : Nat) (ay : Option Addr) (cy : Nat) : List Value :=
  [.int .i64 o.kd, .int .i64 o.bd, .int .i64 o.sg, .int .i64 o.rd, .slice ax o.xs.length cx, .slice ay o.ys.length cy, .int .i64 o.fl, .int .i64 o.wd, .int .i64 o.ht]
theorem opCells_one (o : Opr) (ax : Option Addr) (cx : Nat) (ay : Option Addr) (cy : Nat) : ∀ u ∈ opCells o ax cx ay cy, u.oneCell' = true := by
  intro u hu
  unfold opCells at hu
  simp only [List.mem_cons, List.not_mem_nil, or_false] at hu
  rcases hu with rfl | rfl | rfl | rfl | rfl | rfl | rfl | rfl | rfl <;> rfl
/-- Operations so far, in a row of the call's own. -/
def RefsSo (T : TypeId) (B : Nat) (w0 w : World) (L : List Opr) (k : Nat) (v : Value) : Prop :=
  ∃ us, us.length = k ∧ OwnRec T 9 w B v us ∧ ∀ j, j < k → ∃ ax cx ay cy, us.getD j [] = opCells (opAt L j) ax cx ay cy ∧ OpAt w0 (opAt L j) ax cx ay cy
theorem RefsSo.ops {T : TypeId} {B : Nat} {w0 w : World} {L : List Opr} {k : Nat} {v : Value} (h : RefsSo T B w0 w L k v) (hk : L.length = k) (hb : Below w0.heap.size w0 w) : ∃ ad cap, v = .slice ad k cap ∧ OpsAt w ad L ∧ (ad = none → cap = 0) := by
  obtain ⟨us, hu, ho, hc⟩ := h
  by_cases e : us = []
  · subst e
    obtain ⟨ad, cap, rfl, _, z⟩ := ho.form rfl
    have hk0 : k = 0 := by simpa using hu.symm
    subst hk0
    exact ⟨ad, cap, rfl, .inl (List.eq_nil_of_length_eq_zero hk), z⟩
  · obtain ⟨g, cap, rfl, _, _, _, hr⟩ := ho.read e
    rw [hu]
    refine ⟨_, cap, rfl, .inr ⟨g, 0, rfl, fun j hj => ?_⟩, fun e => by cases e⟩
    obtain ⟨ax, cx, ay, cy, hcell, ha⟩ := hc j (by omega)
    have R := hr j (by omega)
    unfold recAt at R
    rw [hcell] at R
    rw [Nat.zero_add]
    exact ⟨R 0 (by decide), R 1 (by decide), R 2 (by decide), R 3 (by decide), R 6 (by decide), R 7 (by decide), R 8 (by decide), ax, cx, ay, cy, R 4 (by decide), R 5 (by decide), ha.below hb⟩
theorem RefsSo.more {T : TypeId} {B : Nat} {w0 w2 : World} {L : List Opr} {k : Nat} {us : List (List Value)} {v' : Value} {ax ay : Option Addr} {cx cy : Nat} (hu : us.length = k) (h9 : ∀ x ∈ us, x.length = 9)
    (hc : ∀ j, j < k → ∃ ax cx ay cy, us.getD j [] = opCells (opAt L j) ax cx ay cy ∧ OpAt w0 (opAt L j) ax cx ay cy) (ha : OpAt w0 (opAt L k) ax cx ay cy) (own : w2.ownsRow B T 9 v' (k + 1) (us.flatten ++ opCells (opAt L k) ax cx ay cy)) : RefsSo T B w0 w2 L (k + 1) v' := by
  refine ⟨us ++ [opCells (opAt L k) ax cx ay cy], by rw [List.length_append, hu]; rfl, OwnRec.more h9 rfl (by rw [hu]) own, fun j hj => ?_⟩
  by_cases e : j = k
  · subst e
    refine ⟨ax, cx, ay, cy, ?_, ha⟩
    rw [← hu, List.getD_eq_getElem?_getD, List.getElem?_append_right (Nat.le_refl _), Nat.sub_self]
    rfl
  · obtain ⟨a, b, c, d, h1, h2⟩ := hc j (by omega)
    refine ⟨a, b, c, d, ?_, h2⟩
    rw [List.getD_eq_getElem?_getD, List.getElem?_append_left (by omega), ← List.getD_eq_getElem?_getD]
    exact h1
end Go.Proofs.YtlknopmpbkepjaaDoor

/- Blocks of nine cells, and of three. -/
namespace Go.Proofs.YtlknopmpbkepjaaDoor
open Go.RowKit


/-- The nine cells of an operation at the head of a block. -/
def P9 (w : World) (b : Nat) (k d s r : Int) (x y : Value) (f a h : Int) : Prop :=
  w.cell? ⟨b, 0, none⟩ = some (.int .i64 k) ∧ w.cell? ⟨b, 1, none⟩ = some (.int .i64 d) ∧ w.cell? ⟨b, 2, none⟩ = some (.int .i64 s) ∧ w.cell? ⟨b, 3, none⟩ = some (.int .i64 r) ∧ w.cell? ⟨b, 4, none⟩ = some x ∧ w.cell? ⟨b, 5, none⟩ = some y ∧
  w.cell? ⟨b, 6, none⟩ = some (.int .i64 f) ∧ w.cell? ⟨b, 7, none⟩ = some (.int .i64 a) ∧ w.cell? ⟨b, 8, none⟩ = some (.int .i64 h)
theorem P9.below {w w' : World} {b : Nat} {k d s r : Int} {x y : Value} {f a h : Int} (p : P9 w b k d s r x y f a h) (hb : Below w.heap.size w w') : P9 w' b k d s r x y f a h := by
  obtain ⟨p0, p1, p2, p3, p4, p5, p6, p7, p8⟩ := p
  have hl := cell_ltL p0
  exact ⟨cb hb hl p0, cb hb hl p1, cb hb hl p2, cb hb hl p3, cb hb hl p4, cb hb hl p5, cb hb hl p6, cb hb hl p7, cb hb hl p8⟩
theorem P9.new (w : World) (T : TypeId) (k d s r : Int) (x y : Value) (f a h : Int) : P9 (w.alloc (.cells #[.int .i64 k, .int .i64 d, .int .i64 s, .int .i64 r, x, y, .int .i64 f, .int .i64 a, .int .i64 h] T)) w.heap.size k d s r x y f a h := by
  unfold P9
  simp
/-- A literal of one operation. -/
theorem ops_one (w : World) (T : TypeId) (o : Opr) (ax : Option Addr) (cx : Nat) (ay : Option Addr) (cy : Nat) (hA : OpAt w o ax cx ay cy) : OpsAt (w.alloc (.cells #[.int .i64 o.kd, .int .i64 o.bd, .int .i64 o.sg, .int .i64 o.rd, .slice ax o.xs.length cx, .slice ay o.ys.length cy, .int .i64 o.fl, .int .i64 o.wd, .int .i64 o.ht] T)) (some ⟨w.heap.size, 0, none⟩) [o] := by
  refine .inr ⟨w.heap.size, 0, rfl, fun j hj => ?_⟩
  obtain rfl : j = 0 := by simpa using hj
  show OpIn _ _ _ o
  obtain ⟨p0, p1, p2, p3, p4, p5, p6, p7, p8⟩ := P9.new w T o.kd o.bd o.sg o.rd (.slice ax o.xs.length cx) (.slice ay o.ys.length cy) o.fl o.wd o.ht
  exact ⟨p0, p1, p2, p3, p6, p7, p8, ax, cx, ay, cy, p4, p5, hA.below (below1 _ _)⟩
theorem S3new (w : World) (T : TypeId) (x y z : Value) : (w.alloc (.cells #[x, y, z] T)).cell? ⟨w.heap.size, 0, none⟩ = some x ∧ (w.alloc (.cells #[x, y, z] T)).cell? ⟨w.heap.size, 1, none⟩ = some y ∧ (w.alloc (.cells #[x, y, z] T)).cell? ⟨w.heap.size, 2, none⟩ = some z := by simp
theorem t3_below {w w' : World} {R : Nat} {x y z : Value} (h : w.cell? ⟨R, 0, none⟩ = some x ∧ w.cell? ⟨R, 1, none⟩ = some y ∧ w.cell? ⟨R, 2, none⟩ = some z) (hb : Below w.heap.size w w') : w'.cell? ⟨R, 0, none⟩ = some x ∧ w'.cell? ⟨R, 1, none⟩ = some y ∧ w'.cell? ⟨R, 2, none⟩ = some z :=
  ⟨cb hb (cell_ltL h.1) h.1, cb hb (cell_ltL h.1) h.2.1, cb hb (cell_ltL h.1) h.2.2⟩
end Go.Proofs.YtlknopmpbkepjaaDoor

/- What stands beyond the edge: the laws. -/
namespace Go.Proofs.YtlknopmpbkepjaaDoor
open Go.RowKit

/-- A callee that leaves the world as it is, in a region that draws and only reads. -/
theorem calm {P : Program} {f : FuncId} {args : Array Value} {u : Value} (h : ∀ w : World, Calls P f args w fun e w' => e = .returned u ∧ w = w') (w : World) (n : Nat) :
    Calls P f args (w.drewN n) fun e w'' => e = .returned u ∧ ∃ m, w'' = w.drewN m :=
  (h _).mono fun _ _ q => ⟨q.1, n, q.2.symm⟩
end Go.Proofs.YtlknopmpbkepjaaDoor
