/- Parts, joined. -/
import Derived.Test.YtlknopmpbkepjaaGreatDoorJ12
import Derived.Test.YtlknopmpbkepjaaGreatDoorJ02
import Derived.Test.YtlknopmpbkepjaaGreatDoorJ08
import Derived.Test.YtlknopmpbkepjaaGreatDoorJ11
import Derived.Test.YtlknopmpbkepjaaGreatDoorJ13
import Derived.Deep.Slices
import Derived.Deep.Fields
import Derived.ChangeSame
import Derived.OpenShut
import Derived.Deep.LoopGhost
import Derived.Deep.RegionHeld3
import Derived.Deep.QuietTactic
import Derived.BigQuiet
import Derived.Lib.LazyBuf
import Derived.Shelf.SlSortCmp.Insertion
import Derived.Sort.Statements
/- Operations in memory: a struct of seven ints and two slices of ints, by value and in a slice; opened. -/
namespace Go.Proofs.YtlknopmpbkepjaaGreatDoor
open Go.RowKit


/-- An operation as a value. -/
def opV (o : Opr) (ax : Option Addr) (cx : Nat) (ay : Option Addr) (cy : Nat) : Value :=
  .agg #[.int .i64 o.kd, .int .i64 o.bd, .int .i64 o.sg, .int .i64 o.rd, .slice ax o.xs.length cx, .slice ay o.ys.length cy, .int .i64 o.fl, .int .i64 o.wd, .int .i64 o.ht]
def In64 (x : Int) : Prop := -9223372036854775808 ≤ x ∧ x ≤ 9223372036854775807
/-- What numbers it may have. -/
structure OpFits (o : Opr) : Prop where
  kd : In64 o.kd
  bd : In64 o.bd
  sg : In64 o.sg
  rd : In64 o.rd
  fl : In64 o.fl
  wd : In64 o.wd
  ht : In64 o.ht
  xs : AllK .i64 o.xs
  ys : AllK .i64 o.ys
  lx : o.xs.length ≤ maxLen
  ly : o.ys.length ≤ maxLen
theorem AllK.all {xs : List Int} (h : AllK .i64 xs) : All64 xs := fun _ hj => allK_i64 h hj
/-- Its weights stand in memory. -/
def OpAt (w : World) (o : Opr) (ax : Option Addr) (cx : Nat) (ay : Option Addr) (cy : Nat) : Prop := RowAt .i64 w ax o.xs ∧ RowAt .i64 w ay o.ys ∧ (ax = none → cx = 0) ∧ (ay = none → cy = 0)
theorem OpAt.below {w w' : World} {o : Opr} {ax ay : Option Addr} {cx cy : Nat} (h : OpAt w o ax cx ay cy) (hb : Below w.heap.size w w') : OpAt w' o ax cx ay cy := ⟨h.1.below hb, h.2.1.below hb, h.2.2⟩
/-- The nine cells of one. -/
def OpIn (w : World) (b q : Nat) (o : Opr) : Prop :=
  w.cell? ⟨b, q, none⟩ = some (.int .i64 o.kd) ∧ w.cell? ⟨b, q + 1, none⟩ = some (.int .i64 o.bd) ∧ w.cell? ⟨b, q + 2, none⟩ = some (.int .i64 o.sg) ∧ w.cell? ⟨b, q + 3, none⟩ = some (.int .i64 o.rd) ∧
  w.cell? ⟨b, q + 6, none⟩ = some (.int .i64 o.fl) ∧ w.cell? ⟨b, q + 7, none⟩ = some (.int .i64 o.wd) ∧ w.cell? ⟨b, q + 8, none⟩ = some (.int .i64 o.ht) ∧
  ∃ ax cx ay cy, w.cell? ⟨b, q + 4, none⟩ = some (.slice ax o.xs.length cx) ∧ w.cell? ⟨b, q + 5, none⟩ = some (.slice ay o.ys.length cy) ∧ OpAt w o ax cx ay cy
theorem OpIn.below {w w' : World} {b q : Nat} {o : Opr} (h : OpIn w b q o) (hb : Below w.heap.size w w') : OpIn w' b q o := by
  obtain ⟨h0, h1, h2, h3, h6, h7, h8, ax, cx, ay, cy, h4, h5, ha⟩ := h
  have hl := cell_ltL h0
  exact ⟨cb hb hl h0, cb hb hl h1, cb hb hl h2, cb hb hl h3, cb hb hl h6, cb hb hl h7, cb hb hl h8, ax, cx, ay, cy, cb hb hl h4, cb hb hl h5, ha.below hb⟩
/-- The slice at an address reads as these operations. -/
def OpsAt (w : World) (ad : Option Addr) (L : List Opr) : Prop :=
  L = [] ∨ ∃ b off, ad = some ⟨b, off, none⟩ ∧ ∀ j, j < L.length → OpIn w b (off + j * 9) (opAt L j)
def OpsFit (L : List Opr) : Prop := ∀ j, j < L.length → OpFits (opAt L j)
theorem OpsAt.get {w : World} {ad : Option Addr} {L : List Opr} (h : OpsAt w ad L) {j : Nat} (hj : j < L.length) : ∃ b off, ad = some ⟨b, off, none⟩ ∧ OpIn w b (off + j * 9) (opAt L j) := by
  rcases h with rfl | ⟨b, off, h1, h2⟩
  · exact absurd hj (Nat.not_lt_zero _)
  · exact ⟨b, off, h1, h2 j hj⟩
theorem OpsAt.below {w w' : World} {ad : Option Addr} {L : List Opr} (h : OpsAt w ad L) (hb : Below w.heap.size w w') : OpsAt w' ad L := by
  rcases h with h | ⟨b, off, h1, h2⟩
  · exact Or.inl h
  · exact Or.inr ⟨b, off, h1, fun j hj => (h2 j hj).below hb⟩
theorem in64_wf {x : Int} (h : (Lit.int .i64 x).wf = true) : In64 x := by
  simpa [In64, Lit.wf, IntKind.min, IntKind.max, IntKind.signed, IntKind.bits] using h
theorem rowo_cells {H : Type} {enc : TypeId × Value → H} {w : World} {base : Nat} {held : Bool} {fuel : Nat} {v : Value} {x : DataW H × List MemPlace}
    (h : DataW.trod enc Tryz.prog w base (fun _ => true) held fuel 24 [v] = some x) : ∃ (xs : List Int) (ad : Option Addr) (cap : Nat), v = .slice ad xs.length cap ∧ RowAt .i64 w ad xs ∧ AllK .i64 xs ∧ xs.length ≤ maxLen ∧ (ad = none → cap = 0) := by
  rcases Go.ChangeShapes.open_ints Tryz.underlying24 Tryz.underlying2 (by kernel_rfl) h with ⟨hcs, _⟩ | ⟨x, l, c, zs, hcs, _, hl, hm, hz, _, hcell, hwz⟩
  · obtain rfl : v = .slice none 0 0 := by simpa using hcs
    exact ⟨[], none, 0, rfl, Or.inl rfl, fun n hn => (by cases hn), Nat.zero_le _, fun _ => rfl⟩
  · obtain rfl : v = .slice (some x) l c := by simpa using hcs
    obtain ⟨xs, e, a, b, d, f⟩ := row_open (.inr ⟨x, zs, rfl, hl, hm, by simpa using hz, hcell, hwz⟩)
    subst e
    exact ⟨xs, _, _, rfl, a, b, d, f⟩
set_option maxRecDepth 100000 in
theorem op_cells {H : Type} {enc : TypeId × Value → H} {w : World} {base : Nat} {held : Bool} {fuel : Nat} {cs : List Value} {x : DataW H × List MemPlace}
    (h : DataW.trod enc Tryz.prog w base (fun _ => true) held fuel 27 cs = some x) (h9 : cs.length = 9) : ∃ (o : Opr) (ax : Option Addr) (cx : Nat) (ay : Option Addr) (cy : Nat),
      cs = [.int .i64 o.kd, .int .i64 o.bd, .int .i64 o.sg, .int .i64 o.rd, .slice ax o.xs.length cx, .slice ay o.ys.length cy, .int .i64 o.fl, .int .i64 o.wd, .int .i64 o.ht] ∧ OpAt w o ax cx ay cy ∧ OpFits o := by
  obtain ⟨ys, n', _, _, hlen, hyl, hf⟩ := DataW.trod_struct Tryz.underlying27 h
  have k1 : Tryz.prog.cellsOf 3 = 1 := by kernel_rfl
  have k2 : Tryz.prog.cellsOf 2 = 1 := by kernel_rfl
  have k3 : Tryz.prog.cellsOf 22 = 1 := by kernel_rfl
  have k4 : Tryz.prog.cellsOf 23 = 1 := by kernel_rfl
  have k5 : Tryz.prog.cellsOf 25 = 1 := by kernel_rfl
  have k6 : Tryz.prog.cellsOf 24 = 1 := by kernel_rfl
  match cs, h9 with
  | [c0, c1, c2, c3, c4, c5, c6, c7, c8], _ =>
    have hy : ys.length = 9 := hyl
    match ys, hy with
    | [y0, y1, y2, y3, y4, y5, y6, y7, y8], _ =>
      have f0 : DataW.trod enc Tryz.prog w base (fun _ => true) held n' 22 (List.take (Tryz.prog.cellsOf 22) (List.drop 0 [c0, c1, c2, c3, c4, c5, c6, c7, c8])) = some y0 := hf 0 _ rfl
      have f1 : DataW.trod enc Tryz.prog w base (fun _ => true) held n' 23 (List.take (Tryz.prog.cellsOf 23) (List.drop 1 [c0, c1, c2, c3, c4, c5, c6, c7, c8])) = some y1 := hf 1 _ rfl
      have f2 : DataW.trod enc Tryz.prog w base (fun _ => true) held n' 2 (List.take (Tryz.prog.cellsOf 2) (List.drop 2 [c0, c1, c2, c3, c4, c5, c6, c7, c8])) = some y2 := hf 2 _ rfl
      have f3 : DataW.trod enc Tryz.prog w base (fun _ => true) held n' 3 (List.take (Tryz.prog.cellsOf 3) (List.drop 3 [c0, c1, c2, c3, c4, c5, c6, c7, c8])) = some y3 := hf 3 _ rfl
      have f4 : DataW.trod enc Tryz.prog w base (fun _ => true) held n' 24 (List.take (Tryz.prog.cellsOf 24) (List.drop 4 [c0, c1, c2, c3, c4, c5, c6, c7, c8])) = some y4 := hf 4 _ rfl
      have f5 : DataW.trod enc Tryz.prog w base (fun _ => true) held n' 24 (List.take (Tryz.prog.cellsOf 24) (List.drop 5 [c0, c1, c2, c3, c4, c5, c6, c7, c8])) = some y5 := hf 5 _ rfl
      have f6 : DataW.trod enc Tryz.prog w base (fun _ => true) held n' 25 (List.take (Tryz.prog.cellsOf 25) (List.drop 6 [c0, c1, c2, c3, c4, c5, c6, c7, c8])) = some y6 := hf 6 _ rfl
      have f7 : DataW.trod enc Tryz.prog w base (fun _ => true) held n' 3 (List.take (Tryz.prog.cellsOf 3) (List.drop 7 [c0, c1, c2, c3, c4, c5, c6, c7, c8])) = some y7 := hf 7 _ rfl
      have f8 : DataW.trod enc Tryz.prog w base (fun _ => true) held n' 3 (List.take (Tryz.prog.cellsOf 3) (List.drop 8 [c0, c1, c2, c3, c4, c5, c6, c7, c8])) = some y8 := hf 8 _ rfl
      rw [k3] at f0
      rw [k4] at f1
      rw [k2] at f2
      rw [k1] at f3 f7 f8
      rw [k6] at f4 f5
      rw [k5] at f6
      obtain ⟨x0, q0, _, w0⟩ := DataW.trod_int Tryz.underlying22 f0
      obtain ⟨x1, q1, _, w1⟩ := DataW.trod_int Tryz.underlying23 f1
      obtain ⟨x2, q2, _, w2⟩ := DataW.trod_int Tryz.underlying2 f2
      obtain ⟨x3, q3, _, w3⟩ := DataW.trod_int Tryz.underlying3 f3
      obtain ⟨x6, q6, _, w6⟩ := DataW.trod_int Tryz.underlying25 f6
      obtain ⟨x7, q7, _, w7⟩ := DataW.trod_int Tryz.underlying3 f7
      obtain ⟨x8, q8, _, w8⟩ := DataW.trod_int Tryz.underlying3 f8
      simp at q0 q1 q2 q3 q6 q7 q8
      subst q0 q1 q2 q3 q6 q7 q8
      obtain ⟨xs, ax, cx, rfl, r4, a4, l4, z4⟩ := rowo_cells f4
      obtain ⟨zs, ay, cy, rfl, r5, a5, l5, z5⟩ := rowo_cells f5
      exact ⟨⟨x0, x1, x2, x3, xs, zs, x6, x7, x8⟩, ax, cx, ay, cy, rfl, ⟨r4, r5, z4, z5⟩, in64_wf w0, in64_wf w1, in64_wf w2, in64_wf w3, in64_wf w6, in64_wf w7, in64_wf w8, a4, a5, l4, l5⟩
set_option maxRecDepth 100000 in
theorem op_open {H : Type} {enc : TypeId × Value → H} {w : World} {r : Reach} {b0 base : Nat} {held : Bool} {v : Value} {d : DataW H} {p : List MemPlace}
    (hv : Value.okWide Tryz.prog w r b0 27 v) (h : DataW.Trod enc Tryz.prog w base (fun _ => true) held 27 v d p) : ∃ (o : Opr) (ax : Option Addr) (cx : Nat) (ay : Option Addr) (cy : Nat), v = opV o ax cx ay cy ∧ OpAt w o ax cx ay cy ∧ OpFits o := by
  obtain ⟨cs, rfl, hsz⟩ := Go.WideShapes.okWide_struct Tryz.underlying27 hv
  obtain ⟨n, hn⟩ := h
  have hC : Tryz.prog.cellsOf 27 = 9 := by kernel_rfl
  rw [hC] at hsz
  obtain ⟨o, ax, cx, ay, cy, e, a, b⟩ := op_cells hn (by simpa [Value.cells] using hsz)
  obtain ⟨l⟩ := cs
  simp only [Value.cells] at e
  subst e
  exact ⟨o, ax, cx, ay, cy, rfl, a, b⟩
end Go.Proofs.YtlknopmpbkepjaaGreatDoor

/- Tables: what the program's calls are to answer; and that a table is the document's. -/
namespace Go.Proofs.YtlknopmpbkepjaaGreatDoor
open Go.RowKit

def ResizeC (K : World → Prop) (T : World → Value → Int → List (Int × List Int) → Prop) : Prop := ∀ (f n m : Int), -9223372036854775808 ≤ f → f ≤ 9223372036854775807 → -9223372036854775808 ≤ n → n ≤ 9223372036854775807 → -9223372036854775808 ≤ m → m ≤ 9223372036854775807 → ∀ w : World, K w →
  Calls Tryz.prog 25 #[.int .i64 f, .int .i64 n, .int .i64 m] w fun e w' => ∃ v, e = .returned (.tuple #[v, .int .i64 (resCode f n m)]) ∧ (resCode f n m = 0 → T w' v n (linesTo f n m m.toNat)) ∧ (resCode f n m ≠ 0 → v = .pointer none) ∧ Below w.heap.size w w'
def FilterC (K : World → Prop) (T : World → Value → Int → List (Int × List Int) → Prop) : Prop := ∀ (xs : List Int) (ad : Option Addr) (cap : Nat) (n : Int) (w : World), K w → RowAt .i64 w ad xs → All64 xs → xs.length ≤ 9223372036854775807 → -9223372036854775808 ≤ n → n ≤ 9223372036854775807 →
  Calls Tryz.prog 27 #[.slice ad xs.length cap, .int .i64 n] w fun e w' => ∃ v, e = .returned (.tuple #[v, .int .i64 (filCode xs n)]) ∧ (filCode xs n = 0 → T w' v n (filTo xs n.toNat)) ∧ (filCode xs n ≠ 0 → v = .pointer none) ∧ Below w.heap.size w w'
end Go.Proofs.YtlknopmpbkepjaaGreatDoor

/- Tables: windows move on. Out of what the program's calls answer, and that a resize has no code. -/
namespace Go.Proofs.YtlknopmpbkepjaaGreatDoor
open Go.RowKit


theorem cen_next (n m i : Int) : cenR n m (i + 1) = cenR n m i + 2 * n := by
  unfold cenR
  rw [show 2 * (i + 1) + 1 = (2 * i + 1) + 2 by omega, Int.add_mul]
  omega
theorem low_mono {f n m i : Int} (n0 : 1 ≤ n) (m0 : 1 ≤ m) : lowW f n m i ≤ lowW f n m (i + 1) ∧ topW f n m i ≤ topW f n m (i + 1) := by
  unfold lowW topW
  rw [cen_next]
  exact ⟨Int.ediv_le_ediv (by omega) (by omega), Int.ediv_le_ediv (by omega) (by omega)⟩
/-- Windows move on. -/
def Moves (L : List (Int × List Int)) : Prop := ∀ j, j + 1 < L.length → (lnAt L j).1 ≤ (lnAt L (j + 1)).1 ∧ (lnAt L j).1 + ((lnAt L j).2.length : Int) ≤ (lnAt L (j + 1)).1 + ((lnAt L (j + 1)).2.length : Int)
theorem appR_length (xs : List Int) : (appR xs).length = xs.length := by
  unfold appR
  rw [(giveN_len _ _ _).1, quotsW_len]
theorem moves_lines {f n : Int} {m : Nat} (f0 : 0 ≤ f) (f1 : f ≤ 2) (n0 : 1 ≤ n) (n1 : n ≤ 65536) (m1 : m ≤ 65536) : Moves (linesTo f n m m) := by
  intro j hj
  rw [linesTo_len] at hj
  have e : ∀ i : Nat, i < m → lnAt (linesTo f n m m) i = lineR f n m i := fun i hi => lnAt_map _ hi
  rw [e j (by omega), e (j + 1) (by omega)]
  have en : ∀ i : Nat, i < m → (lineR f n m i).1 + ((lineR f n m i).2.length : Int) = topW f n m i + 1 := by
    intro i hi
    have hM : MayP f n m i := ⟨f0, f1, n0, n1, by omega, by omega, by omega, by omega⟩
    have := win_closed hM
    show startR f n m i + ((appR (rowI f n m i)).length : Int) = _
    rw [appR_length, rowI_len]
    unfold startR countR
    omega
  rw [en j (by omega), en (j + 1) (by omega)]
  obtain ⟨a, b⟩ := low_mono (f := f) (n := n) (m := (m : Int)) (i := (j : Int)) n0 (by omega)
  refine ⟨?_, ?_⟩
  · show lowW f n m j + 1 ≤ lowW f n m ((j + 1 : Nat) : Int) + 1
    rw [show ((j + 1 : Nat) : Int) = (j : Int) + 1 by omega]; omega
  · rw [show ((j + 1 : Nat) : Int) = (j : Int) + 1 by omega]; omega
end Go.Proofs.YtlknopmpbkepjaaGreatDoor

/- Tables: all taps of an output come to just 2^14. Out of what the program's calls answer, that a resize has no code, and no great size. -/
namespace Go.Proofs.YtlknopmpbkepjaaGreatDoor
open Go.RowKit


theorem code_line {f n : Int} {m : Nat} (h : resCode f n m = 0) (hB : resB f n m = true) {j : Nat} (hj : j < m) : Fits (rowI f n m j) := by
  unfold resCode at h
  rw [if_pos hB, Int.toNat_natCast] at h
  exact appCode_fits.1 (firstCode_code h hj).1
end Go.Proofs.YtlknopmpbkepjaaGreatDoor

/- Weights that come to one: the law on sums and shares. -/
namespace Go.Proofs.YtlknopmpbkepjaaGreatDoor
open Go.RowKit

theorem app_within {l : List Int} (h : Fits l) : ∀ x ∈ appR l, -67108865 ≤ x ∧ x ≤ 67108865 := by
  obtain ⟨len, _, each, _⟩ := app_facts h
  refine getD_mem fun j hj => ?_
  rw [len] at hj
  have q := quotW_small h.s0 (mem_getD h.small hj)
  rcases each j hj with e | ⟨e, _⟩ <;> omega
end Go.Proofs.YtlknopmpbkepjaaGreatDoor

/- Tables of the program: what its lines are like. Plain lists. -/
namespace Go.Proofs.YtlknopmpbkepjaaGreatDoor
open Go.RowKit


theorem appR_64 {l : List Int} (h : Fits l) : All64 (appR l) := by
  intro j hj
  have hm : (appR l).getD j 0 ∈ appR l := by
    rw [List.getD_eq_getElem?_getD, List.getElem?_eq_getElem hj]
    exact List.getElem_mem hj
  have := app_within h _ hm
  omega
theorem lines_ok {f n : Int} {m : Nat} (h : resCode f n m = 0) (hB : resB f n m = true) : LinesOk (linesTo f n m m) := by
  intro j hj
  rw [linesTo_len] at hj
  rw [show lnAt (linesTo f n m m) j = lineR f n m j from lnAt_map _ hj]
  have hF := code_line h hB hj
  obtain ⟨f0, f1, ⟨n0, n1⟩, m0, m1⟩ := (resB_iff f n m).1 hB
  have hM : MayP f n m j := ⟨f0, f1, n0, n1, by omega, by omega, by omega, by omega⟩
  obtain ⟨a, b, c, d⟩ := row_ends hM
  refine ⟨?_, ?_, ?_, ?_, appR_64 hF⟩
  · show _ ≤ startR f n m j; omega
  · show startR f n m j ≤ _; omega
  · show 1 ≤ (appR (rowI f n m j)).length; rw [appR_length, rowI_len]; exact c
  · show (appR (rowI f n m j)).length ≤ _; rw [appR_length, rowI_len]; omega
theorem fil_at {xs : List Int} {k j : Nat} (h : j < k) : lnAt (filTo xs k) j = filLine xs j := lnAt_map _ h
theorem fil_ok {xs : List Int} (h : Fits xs) {k : Nat} (hk : k ≤ 65536) : LinesOk (filTo xs k) := by
  intro j hj
  rw [filTo_len] at hj
  rw [fil_at hj]
  have h2 := appR_64 h
  obtain ⟨h0, h1, _⟩ := h
  refine ⟨?_, ?_, ?_, ?_, h2⟩
  · show _ ≤ (j : Int) - ((xs.length / 2 : Nat) : Int); omega
  · show (j : Int) - ((xs.length / 2 : Nat) : Int) ≤ _; omega
  · show 1 ≤ (appR xs).length; rw [appR_length]; exact h0
  · show (appR xs).length ≤ _; rw [appR_length]; exact h1
theorem fil_moves (xs : List Int) (k : Nat) : Moves (filTo xs k) := by
  intro j hj
  rw [filTo_len] at hj
  rw [fil_at (show j < k by omega), fil_at hj]
  refine ⟨?_, ?_⟩
  · show (j : Int) - ((xs.length / 2 : Nat) : Int) ≤ ((j + 1 : Nat) : Int) - ((xs.length / 2 : Nat) : Int); omega
  · show (j : Int) - ((xs.length / 2 : Nat) : Int) + ((appR xs).length : Int) ≤ ((j + 1 : Nat) : Int) - ((xs.length / 2 : Nat) : Int) + ((appR xs).length : Int); omega
/-- Lines whose taps are all the same. -/
theorem most_all {L : List (Int × List Int)} {ts : List Int} (h : ∀ j, j < L.length → (lnAt L j).2 = ts) (h0 : 1 ≤ L.length) : mostF L = (ts.length : Int) ∧ sizeF L = sizeH ts := by
  have e : ∀ o, o ≤ L.length → mostTo L o = (if o = 0 then 0 else (ts.length : Int)) ∧ sizeTo L o = (if o = 0 then 0 else sizeH ts) := by
    intro o ho
    induction o with
    | zero => exact ⟨rfl, rfl⟩
    | succ o ih =>
      obtain ⟨a, b⟩ := ih (by omega)
      have s : mostTo L (o + 1) = max (mostTo L o) ((lnAt L o).2.length : Int) := rfl
      have t : sizeTo L (o + 1) = max (sizeTo L o) (sizeH (lnAt L o).2) := rfl
      have z := (sizeH_in ts).1
      rw [s, t, a, b, h o (by omega), if_neg (show o + 1 ≠ 0 by omega), if_neg (show o + 1 ≠ 0 by omega)]
      constructor
      · split <;> omega
      · split <;> omega
  obtain ⟨a, b⟩ := e L.length (Nat.le_refl _)
  rw [if_neg (show L.length ≠ 0 by omega)] at a b
  exact ⟨a, b⟩
end Go.Proofs.YtlknopmpbkepjaaGreatDoor

/- The program's table in memory: what it holds, its getters, a line, what some outputs take. -/
namespace Go.Proofs.YtlknopmpbkepjaaGreatDoor
open Go.RowKit


theorem infoLnT : (Tryz.prog.info? 77).map (fun i => (i.zero, i.size, i.bytes)) = some (some (.agg #[.int .i64 0, .slice none 0 0]), 2, 32) := by kernel_rfl
/-- Lines of a table in memory, each one's taps at the head of a block. -/
def LinesHead (w : World) (h : Nat) (L : List (Int × List Int)) : Prop :=
  ∀ j, j < L.length → w.cell? ⟨h, j * 2, none⟩ = some (.int .i64 (lnAt L j).1) ∧ ∃ b cap, w.cell? ⟨h, j * 2 + 1, none⟩ = some (.slice (some ⟨b, 0, none⟩) (lnAt L j).2.length cap) ∧ RowAt .i64 w (some ⟨b, 0, none⟩) (lnAt L j).2
theorem LinesHead.lines {w : World} {h : Nat} {L : List (Int × List Int)} (H : LinesHead w h L) : LinesAt w h L := by
  intro j hj
  obtain ⟨c1, b, cap, c2, hr⟩ := H j hj
  exact ⟨c1, _, c2, _, cap, rfl, hr⟩
theorem LinesHead.below {w w' : World} {h : Nat} {L : List (Int × List Int)} (H : LinesHead w h L) (hb : Below w.heap.size w w') : LinesHead w' h L := by
  intro j hj
  obtain ⟨c1, b, cap, c2, hr⟩ := H j hj
  exact ⟨cb hb (cell_ltL c1) c1, b, cap, cb hb (cell_ltL c2) c2, hr.below hb⟩
/-- In memory v is a table from n with these lines. -/
def Tab (w : World) (v : Value) (n : Int) (L : List (Int × List Int)) : Prop :=
  ∃ g h cap, v = .pointer (some ⟨g, 0, none⟩) ∧ w.cell? ⟨g, 0, none⟩ = some (.int .i64 n) ∧ w.cell? ⟨g, 1, none⟩ = some (.slice (some ⟨h, 0, none⟩) L.length cap) ∧ w.cell? ⟨g, 2, none⟩ = some (.int .i64 (mostF L)) ∧ w.cell? ⟨g, 3, none⟩ = some (.int .i64 (sizeF L)) ∧
    LinesHead w h L ∧ LinesOk L ∧ Moves L ∧ 1 ≤ L.length ∧ L.length ≤ 65536 ∧ 1 ≤ n ∧ n ≤ 65536
/-- What memory holds of it. -/
def TabM (w : World) (v : Value) (n : Int) (L : List (Int × List Int)) : Prop :=
  ∃ g h cap, v = .pointer (some ⟨g, 0, none⟩) ∧ w.cell? ⟨g, 0, none⟩ = some (.int .i64 n) ∧ w.cell? ⟨g, 1, none⟩ = some (.slice (some ⟨h, 0, none⟩) L.length cap) ∧ w.cell? ⟨g, 2, none⟩ = some (.int .i64 (mostF L)) ∧ w.cell? ⟨g, 3, none⟩ = some (.int .i64 (sizeF L)) ∧ LinesHead w h L
theorem TabM.tab {w : World} {v : Value} {n : Int} {L : List (Int × List Int)} (h : TabM w v n L) (hok : LinesOk L) (hm : Moves L) (l0 : 1 ≤ L.length) (l1 : L.length ≤ 65536) (n0 : 1 ≤ n) (n1 : n ≤ 65536) : Tab w v n L := by
  obtain ⟨g, h, cap, e, c0, c1, c2, c3, hl⟩ := h
  exact ⟨g, h, cap, e, c0, c1, c2, c3, hl, hok, hm, l0, l1, n0, n1⟩
theorem Tab.below {w w' : World} {v : Value} {n : Int} {L : List (Int × List Int)} (h : Tab w v n L) (hb : Below w.heap.size w w') : Tab w' v n L := by
  obtain ⟨g, h, cap, rfl, c0, c1, c2, c3, hl, r⟩ := h
  have gl := cell_ltL c0
  exact ⟨g, h, cap, rfl, cb hb gl c0, cb hb gl c1, cb hb gl c2, cb hb gl c3, hl.below hb, r⟩
/-- A write to a block that has no int at its head leaves a table alone. -/
theorem Tab.kept {w w' : World} {v : Value} {n : Int} {L : List (Int × List Int)} {r : Option Nat} (h : Tab w v n L) (hg : w.grownBy w' r) (hp : ∀ b x, r = some b → w.cell? ⟨b, 0, none⟩ ≠ some (.int .i64 x)) : Tab w' v n L := by
  obtain ⟨g, h, cap, rfl, c0, c1, c2, c3, hl, hok, hm, l0, l1, n0, n1⟩ := h
  have ng : some g ≠ r := fun e => hp g _ e.symm c0
  refine ⟨g, h, cap, rfl, cg hg ng c0, cg hg ng c1, cg hg ng c2, cg hg ng c3, fun j hj => ?_, hok, hm, l0, l1, n0, n1⟩
  have nh : some h ≠ r := by
    have := (hl 0 l0).1
    rw [Nat.zero_mul] at this
    exact fun e => hp h _ e.symm this
  obtain ⟨d1, b, cp, d2, hr⟩ := hl j hj
  have nb : some b ≠ r := by
    have := hr.at (hok j hj).2.2.1
    rw [Nat.zero_add] at this
    exact fun e => hp b _ e.symm this
  exact ⟨cg hg nh d1, b, cp, cg hg nh d2, hr.grown hg nb⟩
theorem Tab.ptr {w : World} {v : Value} {n : Int} {L : List (Int × List Int)} (h : Tab w v n L) : ∃ a, v = .pointer (some a) := by
  obtain ⟨g, h, cap, rfl, _⟩ := h
  exact ⟨_, rfl⟩
theorem Tab.ok {w : World} {v : Value} {n : Int} {L : List (Int × List Int)} (h : Tab w v n L) : LinesOk L ∧ 1 ≤ L.length ∧ L.length ≤ 65536 ∧ 1 ≤ n ∧ n ≤ 65536 := by
  obtain ⟨g, h, cap, _, _, _, _, _, _, a, _, b⟩ := h
  exact ⟨a, b⟩
theorem set_apart {w : World} {a b o j : Nat} {u : Value} (h : a ≠ b ∨ o ≠ j) : (w.setCell ⟨a, o, none⟩ u).cell? ⟨b, j, none⟩ = w.cell? ⟨b, j, none⟩ :=
  World.cell?_setCell_other _ _ _ _ (by intro e; simp only [Addr.mk.injEq, and_true] at e; omega)
end Go.Proofs.YtlknopmpbkepjaaGreatDoor

/- Weights that come to one: places sorted by their rests, and what is given to the first of them. -/
namespace Go.Proofs.YtlknopmpbkepjaaGreatDoor
open Go.RowKit


/-- 'cmp.Or' of two numbers. -/
def orI (a b : Int) : Int := if a = 0 then b else a
/-- How the program compares two places: the greater rest first, then the lesser place. -/
def cfR (r : List Int) (n : Nat) (x y : Fin n) : Int := orI (Lib.compareInt (r.getD y.val 0) (r.getD x.val 0)) (Lib.compareInt (x.val : Int) (y.val : Int))
theorem cmp_lt (x y : Int) : (Lib.compareInt x y < 0 ↔ x < y) ∧ (Lib.compareInt x y = 0 ↔ x = y) := by
  unfold Lib.compareInt
  by_cases h : x < y
  · rw [if_pos h]; omega
  · rw [if_neg h]
    by_cases g : x > y
    · rw [if_pos g]; omega
    · rw [if_neg g]; omega
theorem cfR_lt (r : List Int) (n : Nat) (x y : Fin n) : ltOf (cfR r n) x y = decide (r.getD y.val 0 < r.getD x.val 0 ∨ (r.getD y.val 0 = r.getD x.val 0 ∧ x.val < y.val)) := by
  unfold ltOf cfR orI
  obtain ⟨a, b⟩ := cmp_lt (r.getD y.val 0) (r.getD x.val 0)
  obtain ⟨c, d⟩ := cmp_lt (x.val : Int) (y.val : Int)
  rw [decide_eq_decide]
  by_cases h : Lib.compareInt (r.getD y.val 0) (r.getD x.val 0) = 0
  · rw [if_pos h]; omega
  · rw [if_neg h]; omega
theorem cfR_swo (r : List Int) (n : Nat) : Sort.SWO (ltOf (cfR r n)) where
  irrefl x := by rw [cfR_lt]; simp
  trans x y z h1 h2 := by rw [cfR_lt] at *; simp only [decide_eq_true_eq] at *; omega
  ntrans x y z h1 h2 := by rw [cfR_lt] at *; simp only [decide_eq_false_iff_not] at *; omega
/-- Places in the order in which what lacks is given. -/
structure Ranked (r : List Int) (p : List Nat) : Prop where
  len : p.length = r.length
  lt : ∀ k, k < p.length → p.getD k 0 < r.length
  all : ∀ j, j < r.length → ∃ k, k < p.length ∧ p.getD k 0 = j
  one : ∀ i k, i < p.length → k < p.length → p.getD i 0 = p.getD k 0 → i = k
  order : ∀ i k, i < k → k < p.length → r.getD (p.getD k 0) 0 < r.getD (p.getD i 0) 0 ∨ (r.getD (p.getD k 0) 0 = r.getD (p.getD i 0) 0 ∧ p.getD i 0 < p.getD k 0)
/-- One more, at each of the first places. -/
def bumpN (o : List Int) (p : List Nat) : Nat → List Int
  | 0 => o
  | m + 1 => (bumpN o p m).set (p.getD m 0) ((bumpN o p m).getD (p.getD m 0) 0 + 1)
theorem bumpN_len (o : List Int) (p : List Nat) (m : Nat) : (bumpN o p m).length = o.length := by
  induction m with
  | zero => rfl
  | succ m ih => unfold bumpN; rw [List.length_set]; exact ih
theorem bumpN_give {o r : List Int} {p : List Nat} (hp : Ranked r p) (hr : ∀ j, j < r.length → 0 ≤ r.getD j 0) (hl : o.length = r.length) (m : Nat) (hm : m ≤ r.length) :
    bumpN o p m = (giveN o r m).1 ∧ (∀ k, k < r.length → (giveN o r m).2.getD (p.getD k 0) 0 = if k < m then -1 else r.getD (p.getD k 0) 0) := by
  induction m with
  | zero => exact ⟨rfl, fun k _ => by rw [if_neg (by omega)]; rfl⟩
  | succ m ih =>
    obtain ⟨e1, e2⟩ := ih (by omega)
    obtain ⟨l1, l2⟩ := giveN_len o r m
    obtain ⟨pl, plt, pall, pone, pord⟩ := hp
    have hb : bestTo (giveN o r m).2 (giveN o r m).2.length = p.getD m 0 := by
      have bl := bestTo_lt (giveN o r m).2 (giveN o r m).2.length
      have bm := bestTo_max (giveN o r m).2 (giveN o r m).2.length
      have bf := bestTo_first (giveN o r m).2 (giveN o r m).2.length
      rw [l2] at bl bm bf ⊢
      generalize bestTo (giveN o r m).2 r.length = b at *
      have vm := e2 m (by omega)
      rw [if_neg (by omega)] at vm
      have pm := plt m (by omega)
      have h0 := hr _ pm
      have mx := bm _ pm
      obtain ⟨k, k1, k2⟩ := pall b (by omega)
      have vk := e2 k (by omega)
      rw [k2] at vk
      by_cases g : k < m
      · rw [if_pos g] at vk; omega
      · rw [if_neg g] at vk
        by_cases gk : k = m
        · subst gk; exact k2.symm
        · have := pord m k (by omega) k1
          rw [k2] at this
          have := bf (p.getD m 0)
          omega
    refine ⟨?_, ?_⟩
    · show (bumpN o p m).set _ _ = ((giveN o r m).1.set _ _)
      rw [e1, hb]
    · intro k hk
      show ((giveN o r m).2.set (bestTo (giveN o r m).2 (giveN o r m).2.length) (-1)).getD (p.getD k 0) 0 = _
      have pm := plt m (by omega)
      rw [hb, getD_set _ _ _ _ (by omega)]
      by_cases g : p.getD m 0 = p.getD k 0
      · have := pone m k (by omega) (by omega) g
        rw [if_pos g, if_pos (by omega)]
      · rw [if_neg g, e2 k hk]
        by_cases g2 : k < m
        · rw [if_pos g2, if_pos (by omega)]
        · rw [if_neg g2]
          by_cases g3 : k < m + 1
          · exfalso; apply g; rw [show k = m by omega]
          · rw [if_neg g3]
/-- The places as the sort leaves them. -/
def placesOf {n : Nat} (d : Array (Fin n)) : List Nat := d.toList.map Fin.val
theorem arr_bang {n : Nat} [Inhabited (Fin n)] (d : Array (Fin n)) {k : Nat} (h : k < d.size) : (placesOf d).getD k 0 = (d[k]!).val := by
  unfold placesOf
  rw [List.getD_eq_getElem?_getD, List.getElem?_map, getElem!_pos d k h]
  simp [h]
theorem ranked_of {r : List Int} {n : Nat} (hn : r.length = n) [Inhabited (Fin n)] (d d' : Array (Fin n)) (h0 : d.toList = List.finRange n) (hp : Sort.PermIn 0 d.size d d') (hs : Sort.SortedIn (ltOf (cfR r n)) 0 d.size d') : Ranked r (placesOf d') := by
  obtain ⟨hz, _, hperm⟩ := hp
  have sz : d.size = n := by rw [← Array.length_toList, h0, List.length_finRange]
  have e0 : (d.extract 0 d.size).toList = d.toList := by simp
  have e1 : (d'.extract 0 d.size).toList = d'.toList := by rw [← hz]; simp
  rw [e0, e1, h0] at hperm
  have pl : (placesOf d').length = n := by unfold placesOf; rw [List.length_map, Array.length_toList]; omega
  have nd : (placesOf d').Nodup := by
    unfold placesOf
    have : d'.toList.Nodup := hperm.nodup_iff.2 (List.nodup_finRange n)
    exact List.pairwise_map.2 (List.Pairwise.imp (fun {a b} h e => h (Fin.ext e)) this)
  refine ⟨by omega, ?_, ?_, ?_, ?_⟩
  · intro k hk
    rw [arr_bang d' (by omega)]
    have := (d'[k]!).isLt
    omega
  · intro j hj
    have hm : (⟨j, by omega⟩ : Fin n) ∈ d'.toList := hperm.mem_iff.2 (List.mem_finRange _)
    obtain ⟨k, hk, e⟩ := List.getElem_of_mem hm
    refine ⟨k, by rw [pl]; simp at hk; omega, ?_⟩
    unfold placesOf
    rw [List.getD_eq_getElem?_getD, List.getElem?_map, List.getElem?_eq_getElem hk, e]
    rfl
  · intro i k hi hk h
    rw [List.getD_eq_getElem?_getD, List.getD_eq_getElem?_getD, List.getElem?_eq_getElem hi, List.getElem?_eq_getElem hk] at h
    exact (List.getElem_inj nd).1 h
  · intro i k hik hk
    have S := hs i k (Nat.zero_le _) hik (by omega)
    rw [cfR_lt] at S
    simp only [decide_eq_false_iff_not] at S
    rw [arr_bang d' (by omega), arr_bang d' (by omega)]
    have ne : (d'[i]!).val ≠ (d'[k]!).val := by
      rw [← arr_bang d' (by omega), ← arr_bang d' (by omega)]
      intro h
      rw [List.getD_eq_getElem?_getD, List.getD_eq_getElem?_getD, List.getElem?_eq_getElem (by omega), List.getElem?_eq_getElem hk] at h
      have := (List.getElem_inj nd).1 h
      omega
    omega
end Go.Proofs.YtlknopmpbkepjaaGreatDoor
