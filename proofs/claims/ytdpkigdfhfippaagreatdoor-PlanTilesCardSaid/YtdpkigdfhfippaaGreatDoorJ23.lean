/- Parts, joined. -/
import Derived.Test.YtdpkigdfhfippaaGreatDoorJ22
import Derived.Test.YtdpkigdfhfippaaGreatDoorJ04
import Derived.Test.YtdpkigdfhfippaaGreatDoorJ15
import Derived.Maps.AppendAt
import Derived.Maps.Range
import Derived.Deep.AppendLies
import Derived.Deep.Slices
import Derived.Deep.Fields
import Derived.ChangeSame
import Derived.OpenShut
/- What a store in one block leaves alone; pieces of rows. No number of the program stands in it. -/
namespace Go.Proofs.YtdpkigdfhfippaaGreatDoor
open Go.RowKit


/-- Nothing that there was is turned, but the block b. -/
theorem grown_set (w : World) (b o : Nat) (u : Value) : w.grownBy (w.setCell ⟨b, o, none⟩ u) (some b) :=
  ⟨rfl, rfl, rfl, by simp [World.setCell], fun k hk hne => Below.heap_setCell _ _ _ _ (fun e => hne (by rw [e]))⟩
theorem grown_drewN (w : World) (n : Nat) (row : Option Nat) : w.grownBy (w.drewN n) row := ⟨rfl, rfl, rfl, Nat.le_refl _, fun _ _ _ => rfl⟩
theorem grown_drew (w : World) (row : Option Nat) : w.grownBy w.drew row := ⟨rfl, rfl, rfl, Nat.le_refl _, fun _ _ _ => rfl⟩
theorem grown_below {w w' : World} (h : Below w.heap.size w w') (row : Option Nat) : w.grownBy w' row := ⟨h.os, h.tape, h.output, h.size, fun k hk _ => h.block k hk⟩
theorem below_grown {w w' : World} (h : w.grownBy w' none) : Below w.heap.size w w' := ⟨h.os, h.tape, h.output, h.size, fun k hk => h.block k hk (by simp)⟩
/-- A cell of another block. -/
theorem cg {w w' : World} {row : Option Nat} {b o : Nat} {v : Value} (hg : w.grownBy w' row) (hne : some b ≠ row) (hc : w.cell? ⟨b, o, none⟩ = some v) : w'.cell? ⟨b, o, none⟩ = some v := hg.cell hc hne
theorem fg {w w' : World} {row : Option Nat} {b o : Nat} {v : Value} (hg : w.grownBy w' row) (hne : some b ≠ row) (hc : w.cell? ⟨b, o, none⟩ = some v) (hf : w.frozen? ⟨b, o, none⟩ = false) : w'.frozen? ⟨b, o, none⟩ = false :=
  (hg.frozen_far ⟨b, o, none⟩ (cell_ltL hc) hne).trans hf
theorem RowAt.grown {k : IntKind} {w w' : World} {b off : Nat} {xs : List Int} {row : Option Nat} (h : RowAt k w (some ⟨b, off, none⟩) xs) (hg : w.grownBy w' row) (hne : some b ≠ row) : RowAt k w' (some ⟨b, off, none⟩) xs := by
  by_cases e : xs = []
  · exact Or.inl e
  · exact Or.inr ⟨b, off, rfl, fun j hj => cg hg hne (h.at hj)⟩
/-- A piece of a row. -/
theorem RowAt.part {k : IntKind} {w : World} {b off : Nat} {xs : List Int} (h : RowAt k w (some ⟨b, off, none⟩) xs) (i n : Nat) (hn : i + n ≤ xs.length) : RowAt k w (some ⟨b, off + i, none⟩) ((xs.drop i).take n) := by
  refine Or.inr ⟨b, off + i, rfl, fun j hj => ?_⟩
  have hj' : j < n := by rw [List.length_take] at hj; omega
  have := h.at (j := i + j) (by omega)
  rw [← Nat.add_assoc] at this
  rw [this, List.getD_eq_getElem?_getD, List.getD_eq_getElem?_getD, List.getElem?_take, if_pos hj', List.getElem?_drop]
/-- One number of it is written over. -/
theorem RowAt.put {k : IntKind} {w : World} {b off : Nat} {xs : List Int} (h : RowAt k w (some ⟨b, off, none⟩) xs) (j : Nat) (hj : j < xs.length) (x : Int) : RowAt k (w.setCell ⟨b, off + j, none⟩ (.int k x)) (some ⟨b, off, none⟩) (xs.set j x) := by
  refine Or.inr ⟨b, off, rfl, fun i hi => ?_⟩
  rw [List.length_set] at hi
  by_cases e : i = j
  · subst e
    rw [World.cell?_setCell_same' _ _ _ (by rw [h.at hi]; rfl), List.getD_eq_getElem?_getD, List.getElem?_set_self hi]
    rfl
  · rw [World.cell?_setCell_other _ _ _ _ (by intro e'; simp only [Addr.mk.injEq, and_true] at e'; omega), h.at hi, List.getD_eq_getElem?_getD, List.getD_eq_getElem?_getD, List.getElem?_set_ne (fun g => e g.symm)]
theorem own_row {k : IntKind} {T : TypeId} {w : World} {base n : Nat} {v : Value} {xs : List Int} (h : OwnI k T w base v xs) (hn : xs.length = n) (h0 : 1 ≤ n) :
    ∃ b cap, v = .slice (some ⟨b, 0, none⟩) n cap ∧ base ≤ b ∧ b < w.heap.size ∧ RowAt k w (some ⟨b, 0, none⟩) xs ∧ n ≤ cap ∧ ∀ j, w.frozen? ⟨b, j, none⟩ = false := by
  have h' := h
  subst hn
  obtain ⟨ad, cap, rfl, hr, hz, hs, hc⟩ := h.form
  rcases ad with _ | a
  · have := (hz rfl).1
    rw [this] at h0
    exact absurd h0 (by decide)
  · obtain ⟨g, rfl, hb, hl⟩ := hs a rfl
    exact ⟨g, cap, rfl, hb, hl, hr, hc, fun j => OwnI.frozenAt h' rfl j⟩
/-- The world but for how much of the tape is drawn. -/
def Drew (w w' : World) : Prop := ∃ m, w' = w.drewN m
theorem Drew.refl (w : World) : Drew w w := ⟨0, rfl⟩
theorem Drew.more {w w' : World} (h : Drew w w') (n : Nat) : Drew w (w'.drewN n) := by
  obtain ⟨m, rfl⟩ := h
  exact ⟨m + n, World.drewN_drewN _ _ _⟩
theorem Drew.below {w w' : World} (h : Drew w w') : Below w.heap.size w w' := by
  obtain ⟨m, rfl⟩ := h
  exact bdN (Below.refl _ _) m
theorem Drew.grown {w w' : World} (h : Drew w w') (row : Option Nat) : w.grownBy w' row := grown_below h.below row
/-- A callee that only draws, in a region that draws and only reads. -/
theorem calmD {P : Program} {f : FuncId} {args : Array Value} {u : Value} {w : World} {n : Nat} (h : Calls P f args (w.drewN n) fun e w' => e = .returned u ∧ Drew (w.drewN n) w') :
    Calls P f args (w.drewN n) fun e w'' => e = .returned u ∧ ∃ m, w'' = w.drewN m := Calls.quiet_of h
end Go.Proofs.YtdpkigdfhfippaaGreatDoor

/- Slices of records that a call made: each of so many cells. No number of the program stands in it. -/
namespace Go.Proofs.YtdpkigdfhfippaaGreatDoor
open Go.RowKit


def recAt (us : List (List Value)) (j i : Nat) : Value := (us.getD j []).getD i undef
/-- A slice of records that the call itself made. -/
def OwnRec (T : TypeId) (k : Nat) (w : World) (base : Nat) (v : Value) (us : List (List Value)) : Prop := w.ownsRow base T k v us.length us.flatten ∧ ∀ u ∈ us, u.length = k
theorem flat_get {k : Nat} : ∀ {us : List (List Value)}, (∀ u ∈ us, u.length = k) → ∀ {j i : Nat}, j < us.length → i < k → us.flatten[j * k + i]? = some (recAt us j i)
  | [], _, _, _, h, _ => absurd h (Nat.not_lt_zero _)
  | u :: us, hu, 0, i, _, hi => by
    have e := hu u List.mem_cons_self
    rw [Nat.zero_mul, Nat.zero_add, List.flatten_cons, List.getElem?_append_left (by omega), List.getElem?_eq_getElem (by omega)]
    show _ = some (u.getD i undef)
    rw [List.getD_eq_getElem?_getD, List.getElem?_eq_getElem (by omega)]
    rfl
  | u :: us, hu, j + 1, i, hj, hi => by
    have e := hu u List.mem_cons_self
    have ih := flat_get (fun v hv => hu v (List.mem_cons_of_mem _ hv)) (j := j) (i := i) (by simpa using hj) hi
    rw [List.flatten_cons, List.getElem?_append_right (by rw [e, Nat.add_mul]; omega), e, show (j + 1) * k + i - k = j * k + i by rw [Nat.add_mul]; omega]
    exact ih
theorem recAt_old {us : List (List Value)} {u : List Value} {j i : Nat} (h : j < us.length) : recAt (us ++ [u]) j i = recAt us j i := by
  have e : (us ++ [u]).getD j [] = us.getD j [] := by rw [List.getD_eq_getElem?_getD, List.getD_eq_getElem?_getD, List.getElem?_append_left h]
  unfold recAt
  rw [e]
theorem recAt_new (us : List (List Value)) (u : List Value) (i : Nat) : recAt (us ++ [u]) us.length i = u.getD i undef := by
  have e : (us ++ [u]).getD us.length [] = u := by
    rw [List.getD_eq_getElem?_getD, List.getElem?_append_right (Nat.le_refl _), Nat.sub_self]
    rfl
  unfold recAt
  rw [e]
theorem OwnRec.nil (T : TypeId) (k : Nat) (w : World) (base : Nat) : OwnRec T k w base (.slice none 0 0) [] := ⟨World.ownsRow_nil _ _ _ _, fun _ h => by cases h⟩
theorem recs_below {T : TypeId} {w w' : World} {base k : Nat} {v : Value} {n : Nat} {xs : List Value} (h : w.ownsRow base T k v n xs) (hb : Below w.heap.size w w') : w'.ownsRow base T k v n xs := by
  refine ⟨h.1, ?_⟩
  rcases h.2 with h2 | ⟨g, cap, cur, hv, hB, hg, r⟩
  · exact .inl h2
  · refine .inr ⟨g, cap, cur, hv, hB, ?_, r⟩
    have hlt : g < w.heap.size := by
      rcases Nat.lt_or_ge g w.heap.size with hlt | hge
      · exact hlt
      · rw [Array.getElem?_eq_none hge] at hg; cases hg
    rw [hb.block g hlt]; exact hg
theorem OwnRec.below {T : TypeId} {k : Nat} {w w' : World} {base : Nat} {v : Value} {us : List (List Value)} (h : OwnRec T k w base v us) (hb : Below w.heap.size w w') : OwnRec T k w' base v us := ⟨recs_below h.1 hb, h.2⟩
theorem OwnRec.mono {T : TypeId} {k : Nat} {w : World} {base base' : Nat} {v : Value} {us : List (List Value)} (h : OwnRec T k w base v us) (hb : base' ≤ base) : OwnRec T k w base' v us := ⟨own_mono h.1 hb, h.2⟩
/-- One record is appended. -/
theorem OwnRec.more {T : TypeId} {k : Nat} {w : World} {base n : Nat} {v : Value} {us : List (List Value)} {u : List Value} (hu : ∀ x ∈ us, x.length = k) (hk : u.length = k) (hn : us.length + 1 = n) (h : w.ownsRow base T k v n (us.flatten ++ u)) : OwnRec T k w base v (us ++ [u]) := by
  subst hn
  refine ⟨?_, fun x hx => ?_⟩
  · rw [List.length_append, List.flatten_append]
    simpa using h
  · rcases List.mem_append.1 hx with hx | hx
    · exact hu x hx
    · rw [List.mem_singleton] at hx; rw [hx]; exact hk
/-- What it reads as. -/
theorem OwnRec.read {T : TypeId} {k : Nat} {w : World} {base : Nat} {v : Value} {us : List (List Value)} (h : OwnRec T k w base v us) (h0 : us ≠ []) :
    ∃ g cap, v = .slice (some ⟨g, 0, none⟩) us.length cap ∧ base ≤ g ∧ g < w.heap.size ∧ us.length ≤ cap ∧ ∀ j, j < us.length → ∀ i, i < k → w.cell? ⟨g, j * k + i, none⟩ = some (recAt us j i) := by
  obtain ⟨h2, h3⟩ := h
  have hl : 0 < us.length := List.length_pos_iff.2 h0
  obtain ⟨g, cap, hv, hB, hlt, hc⟩ : ∃ g cap, v = .slice (some ⟨g, 0, none⟩) us.length cap ∧ base ≤ g ∧ g < w.heap.size ∧ us.length ≤ cap := by
    rcases h2.2 with ⟨_, h0⟩ | ⟨g, cap, cur, hv, hB, hg, hn, _⟩
    · omega
    · refine ⟨g, cap, hv, hB, ?_, hn⟩
      rcases Nat.lt_or_ge g w.heap.size with hlt | hge
      · exact hlt
      · rw [Array.getElem?_eq_none hge] at hg; cases hg
  subst hv
  refine ⟨g, cap, rfl, hB, hlt, hc, fun j hj i hi => ?_⟩
  have e1 := World.ownsRow.cells h2 (g := g) rfl _ _ (flat_get h3 hj hi)
  rw [addr_add, Nat.zero_add] at e1
  exact e1
/-- Its form. -/
theorem OwnRec.form {T : TypeId} {k : Nat} {w : World} {base n : Nat} {v : Value} {us : List (List Value)} (h : OwnRec T k w base v us) (hn : us.length = n) : ∃ ad cap, v = .slice ad n cap ∧ n ≤ cap ∧ (ad = none → cap = 0) := by
  subst hn
  rcases h.1.2 with ⟨hv, h0⟩ | ⟨g, cap, cur, hv, _, _, hn, _⟩
  · exact ⟨none, 0, by rw [hv, h0], by omega, fun _ => rfl⟩
  · exact ⟨_, cap, hv, hn, fun e => by cases e⟩
theorem new_list (w : World) (l : List Value) (t : TypeId) : ∀ j x, l[j]? = some x → (w.alloc (.cells l.toArray t)).cell? ((⟨w.heap.size, 0, none⟩ : Addr).add j) = some x := by
  intro j x h
  rw [addr_add, Nat.zero_add]
  unfold World.cell?
  rw [heap_alloc_new]
  simp [h]
end Go.Proofs.YtdpkigdfhfippaaGreatDoor

/- The deeds of a play in memory: a slice of records of three ints and a sample. -/
namespace Go.Proofs.YtdpkigdfhfippaaGreatDoor
open Go.RowKit

theorem list_of {α : Type} (d : α) (P : Nat → α → Prop) : ∀ (n : Nat), (∀ i, i < n → ∃ x, P i x) → ∃ L : List α, L.length = n ∧ ∀ i, i < n → P i (L.getD i d)
  | 0, _ => ⟨[], rfl, fun _ h => absurd h (Nat.not_lt_zero _)⟩
  | n + 1, h => by
    obtain ⟨L, hL, hP⟩ := list_of d P n (fun i hi => h i (by omega))
    obtain ⟨x, hx⟩ := h n (by omega)
    refine ⟨L ++ [x], by simp [hL], fun i hi => ?_⟩
    by_cases e : i = n
    · subst e
      rw [List.getD_eq_getElem?_getD, List.getElem?_append_right (by omega), hL, Nat.sub_self]
      exact hx
    · rw [List.getD_eq_getElem?_getD, List.getElem?_append_left (by omega), ← List.getD_eq_getElem?_getD]
      exact hP i (by omega)
end Go.Proofs.YtdpkigdfhfippaaGreatDoor

/- Operations in memory: a struct of seven ints and two slices of ints, by value and in a slice; opened. -/
namespace Go.Proofs.YtdpkigdfhfippaaGreatDoor
open Go.RowKit


/-- An operation as a value. -/
def opV (o : Opr) (ax : Option Addr) (cx : Nat) (ay : Option Addr) (cy : Nat) : Value :=
  .agg #[.int .i64 o.kd, .int .i64 o.bd, .int .i64 o.sg, .int .i64 o.rd, .slice ax o.xs.length cx, .slice ay o.ys.length cy, .int .i64 o.fl, .int .i64 o.wd, .int .i64 o.ht]
def In64 (x : Int) : Prop := -9223372036854775808 ≤ x ∧ x ≤ 9223372036854775807
/-- What numbers it may have. -/
structure OpFits (o : Opr) : Prop where
  kd : In64 o.kd
  bd : In64 o.bd
  sg : In64 o.sg
  rd : In64 o.rd
  fl : In64 o.fl
  wd : In64 o.wd
  ht : In64 o.ht
  xs : AllK .i64 o.xs
  ys : AllK .i64 o.ys
  lx : o.xs.length ≤ maxLen
  ly : o.ys.length ≤ maxLen
theorem AllK.all {xs : List Int} (h : AllK .i64 xs) : All64 xs := fun _ hj => allK_i64 h hj
/-- Its weights stand in memory. -/
def OpAt (w : World) (o : Opr) (ax : Option Addr) (cx : Nat) (ay : Option Addr) (cy : Nat) : Prop := RowAt .i64 w ax o.xs ∧ RowAt .i64 w ay o.ys ∧ (ax = none → cx = 0) ∧ (ay = none → cy = 0)
theorem OpAt.below {w w' : World} {o : Opr} {ax ay : Option Addr} {cx cy : Nat} (h : OpAt w o ax cx ay cy) (hb : Below w.heap.size w w') : OpAt w' o ax cx ay cy := ⟨h.1.below hb, h.2.1.below hb, h.2.2⟩
/-- The nine cells of one. -/
def OpIn (w : World) (b q : Nat) (o : Opr) : Prop :=
  w.cell? ⟨b, q, none⟩ = some (.int .i64 o.kd) ∧ w.cell? ⟨b, q + 1, none⟩ = some (.int .i64 o.bd) ∧ w.cell? ⟨b, q + 2, none⟩ = some (.int .i64 o.sg) ∧ w.cell? ⟨b, q + 3, none⟩ = some (.int .i64 o.rd) ∧
  w.cell? ⟨b, q + 6, none⟩ = some (.int .i64 o.fl) ∧ w.cell? ⟨b, q + 7, none⟩ = some (.int .i64 o.wd) ∧ w.cell? ⟨b, q + 8, none⟩ = some (.int .i64 o.ht) ∧
  ∃ ax cx ay cy, w.cell? ⟨b, q + 4, none⟩ = some (.slice ax o.xs.length cx) ∧ w.cell? ⟨b, q + 5, none⟩ = some (.slice ay o.ys.length cy) ∧ OpAt w o ax cx ay cy
theorem OpIn.below {w w' : World} {b q : Nat} {o : Opr} (h : OpIn w b q o) (hb : Below w.heap.size w w') : OpIn w' b q o := by
  obtain ⟨h0, h1, h2, h3, h6, h7, h8, ax, cx, ay, cy, h4, h5, ha⟩ := h
  have hl := cell_ltL h0
  exact ⟨cb hb hl h0, cb hb hl h1, cb hb hl h2, cb hb hl h3, cb hb hl h6, cb hb hl h7, cb hb hl h8, ax, cx, ay, cy, cb hb hl h4, cb hb hl h5, ha.below hb⟩
/-- The slice at an address reads as these operations. -/
def OpsAt (w : World) (ad : Option Addr) (L : List Opr) : Prop :=
  L = [] ∨ ∃ b off, ad = some ⟨b, off, none⟩ ∧ ∀ j, j < L.length → OpIn w b (off + j * 9) (opAt L j)
def OpsFit (L : List Opr) : Prop := ∀ j, j < L.length → OpFits (opAt L j)
theorem OpsAt.get {w : World} {ad : Option Addr} {L : List Opr} (h : OpsAt w ad L) {j : Nat} (hj : j < L.length) : ∃ b off, ad = some ⟨b, off, none⟩ ∧ OpIn w b (off + j * 9) (opAt L j) := by
  rcases h with rfl | ⟨b, off, h1, h2⟩
  · exact absurd hj (Nat.not_lt_zero _)
  · exact ⟨b, off, h1, h2 j hj⟩
theorem OpsAt.below {w w' : World} {ad : Option Addr} {L : List Opr} (h : OpsAt w ad L) (hb : Below w.heap.size w w') : OpsAt w' ad L := by
  rcases h with h | ⟨b, off, h1, h2⟩
  · exact Or.inl h
  · exact Or.inr ⟨b, off, h1, fun j hj => (h2 j hj).below hb⟩
theorem in64_wf {x : Int} (h : (Lit.int .i64 x).wf = true) : In64 x := by
  simpa [In64, Lit.wf, IntKind.min, IntKind.max, IntKind.signed, IntKind.bits] using h
theorem rowo_cells {H : Type} {enc : TypeId × Value → H} {w : World} {base : Nat} {held : Bool} {fuel : Nat} {v : Value} {x : DataW H × List MemPlace}
    (h : DataW.trod enc Tryz.prog w base (fun _ => true) held fuel 24 [v] = some x) : ∃ (xs : List Int) (ad : Option Addr) (cap : Nat), v = .slice ad xs.length cap ∧ RowAt .i64 w ad xs ∧ AllK .i64 xs ∧ xs.length ≤ maxLen ∧ (ad = none → cap = 0) := by
  rcases Go.ChangeShapes.open_ints Tryz.underlying24 Tryz.underlying2 (by kernel_rfl) h with ⟨hcs, _⟩ | ⟨x, l, c, zs, hcs, _, hl, hm, hz, _, hcell, hwz⟩
  · obtain rfl : v = .slice none 0 0 := by simpa using hcs
    exact ⟨[], none, 0, rfl, Or.inl rfl, fun n hn => (by cases hn), Nat.zero_le _, fun _ => rfl⟩
  · obtain rfl : v = .slice (some x) l c := by simpa using hcs
    obtain ⟨xs, e, a, b, d, f⟩ := row_open (.inr ⟨x, zs, rfl, hl, hm, by simpa using hz, hcell, hwz⟩)
    subst e
    exact ⟨xs, _, _, rfl, a, b, d, f⟩
set_option maxRecDepth 100000 in
theorem op_cells {H : Type} {enc : TypeId × Value → H} {w : World} {base : Nat} {held : Bool} {fuel : Nat} {cs : List Value} {x : DataW H × List MemPlace}
    (h : DataW.trod enc Tryz.prog w base (fun _ => true) held fuel 27 cs = some x) (h9 : cs.length = 9) : ∃ (o : Opr) (ax : Option Addr) (cx : Nat) (ay : Option Addr) (cy : Nat),
      cs = [.int .i64 o.kd, .int .i64 o.bd, .int .i64 o.sg, .int .i64 o.rd, .slice ax o.xs.length cx, .slice ay o.ys.length cy, .int .i64 o.fl, .int .i64 o.wd, .int .i64 o.ht] ∧ OpAt w o ax cx ay cy ∧ OpFits o := by
  obtain ⟨ys, n', _, _, hlen, hyl, hf⟩ := DataW.trod_struct Tryz.underlying27 h
  have k1 : Tryz.prog.cellsOf 3 = 1 := by kernel_rfl
  have k2 : Tryz.prog.cellsOf 2 = 1 := by kernel_rfl
  have k3 : Tryz.prog.cellsOf 22 = 1 := by kernel_rfl
  have k4 : Tryz.prog.cellsOf 23 = 1 := by kernel_rfl
  have k5 : Tryz.prog.cellsOf 25 = 1 := by kernel_rfl
  have k6 : Tryz.prog.cellsOf 24 = 1 := by kernel_rfl
  match cs, h9 with
  | [c0, c1, c2, c3, c4, c5, c6, c7, c8], _ =>
    have hy : ys.length = 9 := hyl
    match ys, hy with
    | [y0, y1, y2, y3, y4, y5, y6, y7, y8], _ =>
      have f0 : DataW.trod enc Tryz.prog w base (fun _ => true) held n' 22 (List.take (Tryz.prog.cellsOf 22) (List.drop 0 [c0, c1, c2, c3, c4, c5, c6, c7, c8])) = some y0 := hf 0 _ rfl
      have f1 : DataW.trod enc Tryz.prog w base (fun _ => true) held n' 23 (List.take (Tryz.prog.cellsOf 23) (List.drop 1 [c0, c1, c2, c3, c4, c5, c6, c7, c8])) = some y1 := hf 1 _ rfl
      have f2 : DataW.trod enc Tryz.prog w base (fun _ => true) held n' 2 (List.take (Tryz.prog.cellsOf 2) (List.drop 2 [c0, c1, c2, c3, c4, c5, c6, c7, c8])) = some y2 := hf 2 _ rfl
      have f3 : DataW.trod enc Tryz.prog w base (fun _ => true) held n' 3 (List.take (Tryz.prog.cellsOf 3) (List.drop 3 [c0, c1, c2, c3, c4, c5, c6, c7, c8])) = some y3 := hf 3 _ rfl
      have f4 : DataW.trod enc Tryz.prog w base (fun _ => true) held n' 24 (List.take (Tryz.prog.cellsOf 24) (List.drop 4 [c0, c1, c2, c3, c4, c5, c6, c7, c8])) = some y4 := hf 4 _ rfl
      have f5 : DataW.trod enc Tryz.prog w base (fun _ => true) held n' 24 (List.take (Tryz.prog.cellsOf 24) (List.drop 5 [c0, c1, c2, c3, c4, c5, c6, c7, c8])) = some y5 := hf 5 _ rfl
      have f6 : DataW.trod enc Tryz.prog w base (fun _ => true) held n' 25 (List.take (Tryz.prog.cellsOf 25) (List.drop 6 [c0, c1, c2, c3, c4, c5, c6, c7, c8])) = some y6 := hf 6 _ rfl
      have f7 : DataW.trod enc Tryz.prog w base (fun _ => true) held n' 3 (List.take (Tryz.prog.cellsOf 3) (List.drop 7 [c0, c1, c2, c3, c4, c5, c6, c7, c8])) = some y7 := hf 7 _ rfl
      have f8 : DataW.trod enc Tryz.prog w base (fun _ => true) held n' 3 (List.take (Tryz.prog.cellsOf 3) (List.drop 8 [c0, c1, c2, c3, c4, c5, c6, c7, c8])) = some y8 := hf 8 _ rfl
      rw [k3] at f0
      rw [k4] at f1
      rw [k2] at f2
      rw [k1] at f3 f7 f8
      rw [k6] at f4 f5
      rw [k5] at f6
      obtain ⟨x0, q0, _, w0⟩ := DataW.trod_int Tryz.underlying22 f0
      obtain ⟨x1, q1, _, w1⟩ := DataW.trod_int Tryz.underlying23 f1
      obtain ⟨x2, q2, _, w2⟩ := DataW.trod_int Tryz.underlying2 f2
      obtain ⟨x3, q3, _, w3⟩ := DataW.trod_int Tryz.underlying3 f3
      obtain ⟨x6, q6, _, w6⟩ := DataW.trod_int Tryz.underlying25 f6
      obtain ⟨x7, q7, _, w7⟩ := DataW.trod_int Tryz.underlying3 f7
      obtain ⟨x8, q8, _, w8⟩ := DataW.trod_int Tryz.underlying3 f8
      simp at q0 q1 q2 q3 q6 q7 q8
      subst q0 q1 q2 q3 q6 q7 q8
      obtain ⟨xs, ax, cx, rfl, r4, a4, l4, z4⟩ := rowo_cells f4
      obtain ⟨zs, ay, cy, rfl, r5, a5, l5, z5⟩ := rowo_cells f5
      exact ⟨⟨x0, x1, x2, x3, xs, zs, x6, x7, x8⟩, ax, cx, ay, cy, rfl, ⟨r4, r5, z4, z5⟩, in64_wf w0, in64_wf w1, in64_wf w2, in64_wf w3, in64_wf w6, in64_wf w7, in64_wf w8, a4, a5, l4, l5⟩
set_option maxRecDepth 100000 in
theorem op_open {H : Type} {enc : TypeId × Value → H} {w : World} {r : Reach} {b0 base : Nat} {held : Bool} {v : Value} {d : DataW H} {p : List MemPlace}
    (hv : Value.okWide Tryz.prog w r b0 27 v) (h : DataW.Trod enc Tryz.prog w base (fun _ => true) held 27 v d p) : ∃ (o : Opr) (ax : Option Addr) (cx : Nat) (ay : Option Addr) (cy : Nat), v = opV o ax cx ay cy ∧ OpAt w o ax cx ay cy ∧ OpFits o := by
  obtain ⟨cs, rfl, hsz⟩ := Go.WideShapes.okWide_struct Tryz.underlying27 hv
  obtain ⟨n, hn⟩ := h
  have hC : Tryz.prog.cellsOf 27 = 9 := by kernel_rfl
  rw [hC] at hsz
  obtain ⟨o, ax, cx, ay, cy, e, a, b⟩ := op_cells hn (by simpa [Value.cells] using hsz)
  obtain ⟨l⟩ := cs
  simp only [Value.cells] at e
  subst e
  exact ⟨o, ax, cx, ay, cy, rfl, a, b⟩
set_option maxRecDepth 100000 in
/-- Operations that come in as a slice. -/
theorem ops_open {H : Type} {enc : TypeId × Value → H} {w : World} {base : Nat} {held : Bool} {fuel : Nat} {ad : Option Addr} {len cap : Nat} {x : DataW H × List MemPlace}
    (h : DataW.trod enc Tryz.prog w base (fun _ => true) held fuel 71 [.slice ad len cap] = some x) :
    ∃ L : List Opr, L.length = len ∧ (OpsAt w ad L ∧ OpsFit L) ∧ L.length ≤ maxLen ∧ (ad = none → cap = 0) := by
  rcases Go.Deep.open_slice Tryz.underlying71 h with ⟨hcs, _⟩ | ⟨a, len', cap', m, n, D, Pl, hcs, _, hl, hm, hmm, _, hi⟩
  · simp only [List.cons.injEq, Value.slice.injEq, and_true] at hcs
    obtain ⟨rfl, rfl, rfl⟩ := hcs
    exact ⟨[], rfl, ⟨Or.inl rfl, fun _ hj => absurd hj (Nat.not_lt_zero _)⟩, Nat.zero_le _, fun _ => rfl⟩
  · simp only [List.cons.injEq, Value.slice.injEq, and_true] at hcs
    obtain ⟨rfl, rfl, rfl⟩ := hcs
    have hlm : len ≤ m := by rw [hmm]; split <;> omega
    have hC : Tryz.prog.cellsOf 27 = 9 := by kernel_rfl
    have one : ∀ i, i < len → ∃ o : Opr, (∃ ax cx ay cy, w.cell? (a.add (i * 9)) = some (.int .i64 o.kd) ∧ w.cell? (a.add (i * 9 + 1)) = some (.int .i64 o.bd) ∧ w.cell? (a.add (i * 9 + 2)) = some (.int .i64 o.sg) ∧ w.cell? (a.add (i * 9 + 3)) = some (.int .i64 o.rd) ∧ w.cell? (a.add (i * 9 + 6)) = some (.int .i64 o.fl) ∧ w.cell? (a.add (i * 9 + 7)) = some (.int .i64 o.wd) ∧ w.cell? (a.add (i * 9 + 8)) = some (.int .i64 o.ht) ∧
        w.cell? (a.add (i * 9 + 4)) = some (.slice ax o.xs.length cx) ∧ w.cell? (a.add (i * 9 + 5)) = some (.slice ay o.ys.length cy) ∧ OpAt w o ax cx ay cy) ∧ OpFits o := by
      intro i hil
      obtain ⟨cs', hc, ht⟩ := hi i (by omega)
      rw [hC] at hc
      obtain ⟨_, hcl, hat⟩ := World.cells?_some hc
      obtain ⟨o, ax, cx, ay, cy, rfl, oa, ofi⟩ := op_cells ht hcl
      refine ⟨o, ⟨ax, cx, ay, cy, ?_⟩, ofi⟩
      have a0 := hat 0 (by decide)
      have a1 := hat 1 (by decide)
      have a2 := hat 2 (by decide)
      have a3 := hat 3 (by decide)
      have a4 := hat 4 (by decide)
      have a5 := hat 5 (by decide)
      have a6 := hat 6 (by decide)
      have a7 := hat 7 (by decide)
      have a8 := hat 8 (by decide)
      rw [Go.Deep.add_add] at a0 a1 a2 a3 a4 a5 a6 a7 a8
      exact ⟨a0, a1, a2, a3, a6, a7, a8, a4, a5, oa⟩
    obtain ⟨L, hL, hP⟩ := list_of op0 _ len one
    refine ⟨L, hL, ⟨?_, fun j hj => (hP j (by omega)).2⟩, by omega, fun e => by cases e⟩
    by_cases h0 : len = 0
    · exact Or.inl (List.eq_nil_of_length_eq_zero (by omega))
    · obtain ⟨b, off, spot⟩ := a
      have hspot : spot = none := by
        obtain ⟨⟨ax, cx, ay, cy, this, _⟩, _⟩ := hP 0 (by omega)
        simpa [Addr.add] using World.cell?_spot this
      subst hspot
      refine Or.inr ⟨b, off, rfl, fun j hj => ?_⟩
      obtain ⟨⟨ax, cx, ay, cy, g0, g1, g2, g3, g6, g7, g8, g4, g5, oa⟩, _⟩ := hP j (by omega)
      rw [addr_add] at g0 g1 g2 g3 g4 g5 g6 g7 g8
      exact ⟨g0, g1, g2, g3, g6, g7, g8, ax, cx, ay, cy, g4, g5, oa⟩
end Go.Proofs.YtdpkigdfhfippaaGreatDoor
