/- Parts, joined. -/
import Derived.Test.YtdpkigdfhfippaaGreatDoorJ22
import Derived.Test.YtdpkigdfhfippaaGreatDoorJ23
import Derived.Test.YtdpkigdfhfippaaGreatDoorJ13
import Derived.Test.YtdpkigdfhfippaaGreatDoorJ16
import Derived.Test.YtdpkigdfhfippaaGreatDoorJ21
import Derived.Deep.LoopGhost
import Derived.Deep.RegionHeld3
import Derived.Deep.QuietTactic
import Derived.BigQuiet
import Derived.OpenShut
/- Tiles in memory: ten cells each, by value, in a block, in a slice. Written by gen_XS14B.py. -/
namespace Go.Proofs.YtdpkigdfhfippaaGreatDoor
open Go.RowKit


def tilCells (t : Til) : List Value := [.int .i64 t.tn, .int .i64 t.tx, .int .i64 t.ty, .int .i64 t.tw, .int .i64 t.th, .int .i64 t.fx, .int .i64 t.fy, .int .i64 t.cx, .int .i64 t.cy, .int .i64 t.rg]
/-- A tile of the document's, as a value. -/
def dtilV (t : Til) : Value := .agg #[.int .i64 t.tn, .int .i64 t.tx, .int .i64 t.ty, .int .i64 t.tw, .int .i64 t.th, .int .i64 t.fx, .int .i64 t.fy, .int .i64 t.cx, .int .i64 t.cy, .int .i64 t.rg]
/-- A tile of the program's (a struct in a struct lies flat). -/
def tilV (t : Til) : Value := .agg #[.int .i64 t.tn, .int .i64 t.tx, .int .i64 t.ty, .int .i64 t.tw, .int .i64 t.th, .int .i64 t.fx, .int .i64 t.fy, .int .i64 t.cx, .int .i64 t.cy, .int .i64 t.rg]
def TilIn (w : World) (b q : Nat) (t : Til) : Prop := w.cell? ⟨b, q, none⟩ = some (.int .i64 t.tn) ∧ w.cell? ⟨b, q + 1, none⟩ = some (.int .i64 t.tx) ∧ w.cell? ⟨b, q + 2, none⟩ = some (.int .i64 t.ty) ∧ w.cell? ⟨b, q + 3, none⟩ = some (.int .i64 t.tw) ∧ w.cell? ⟨b, q + 4, none⟩ = some (.int .i64 t.th) ∧ w.cell? ⟨b, q + 5, none⟩ = some (.int .i64 t.fx) ∧ w.cell? ⟨b, q + 6, none⟩ = some (.int .i64 t.fy) ∧ w.cell? ⟨b, q + 7, none⟩ = some (.int .i64 t.cx) ∧ w.cell? ⟨b, q + 8, none⟩ = some (.int .i64 t.cy) ∧ w.cell? ⟨b, q + 9, none⟩ = some (.int .i64 t.rg)
theorem TilIn.below {w w' : World} {b q : Nat} {t : Til} (h : TilIn w b q t) (hb : Below w.heap.size w w') : TilIn w' b q t := by
  obtain ⟨h0, h1, h2, h3, h4, h5, h6, h7, h8, h9⟩ := h
  have hl := cell_ltL h0
  exact ⟨cb hb hl h0, cb hb hl h1, cb hb hl h2, cb hb hl h3, cb hb hl h4, cb hb hl h5, cb hb hl h6, cb hb hl h7, cb hb hl h8, cb hb hl h9⟩
/-- The ten cells at the head of a block. -/
def P10 (w : World) (b : Nat) (t : Til) : Prop := w.cell? ⟨b, 0, none⟩ = some (.int .i64 t.tn) ∧ w.cell? ⟨b, 1, none⟩ = some (.int .i64 t.tx) ∧ w.cell? ⟨b, 2, none⟩ = some (.int .i64 t.ty) ∧ w.cell? ⟨b, 3, none⟩ = some (.int .i64 t.tw) ∧ w.cell? ⟨b, 4, none⟩ = some (.int .i64 t.th) ∧ w.cell? ⟨b, 5, none⟩ = some (.int .i64 t.fx) ∧ w.cell? ⟨b, 6, none⟩ = some (.int .i64 t.fy) ∧ w.cell? ⟨b, 7, none⟩ = some (.int .i64 t.cx) ∧ w.cell? ⟨b, 8, none⟩ = some (.int .i64 t.cy) ∧ w.cell? ⟨b, 9, none⟩ = some (.int .i64 t.rg)
theorem P10.below {w w' : World} {b : Nat} {t : Til} (h : P10 w b t) (hb : Below w.heap.size w w') : P10 w' b t := by
  obtain ⟨h0, h1, h2, h3, h4, h5, h6, h7, h8, h9⟩ := h
  have hl := cell_ltL h0
  exact ⟨cb hb hl h0, cb hb hl h1, cb hb hl h2, cb hb hl h3, cb hb hl h4, cb hb hl h5, cb hb hl h6, cb hb hl h7, cb hb hl h8, cb hb hl h9⟩
theorem P10.new (w : World) (T : TypeId) (t : Til) : P10 (w.alloc (.cells #[.int .i64 t.tn, .int .i64 t.tx, .int .i64 t.ty, .int .i64 t.tw, .int .i64 t.th, .int .i64 t.fx, .int .i64 t.fy, .int .i64 t.cx, .int .i64 t.cy, .int .i64 t.rg] T)) w.heap.size t := by
  unfold P10
  simp
/-- The slice at an address reads as so many tiles. -/
def TilsAt (w : World) (ad : Option Addr) (n : Nat) (F : Nat → Til) : Prop := n = 0 ∨ ∃ b off, ad = some ⟨b, off, none⟩ ∧ ∀ j, j < n → TilIn w b (off + j * 10) (F j)
theorem TilsAt.below {w w' : World} {ad : Option Addr} {n : Nat} {F : Nat → Til} (h : TilsAt w ad n F) (hb : Below w.heap.size w w') : TilsAt w' ad n F := by
  rcases h with h | ⟨b, off, e, h⟩
  · exact .inl h
  · exact .inr ⟨b, off, e, fun j hj => (h j hj).below hb⟩
theorem TilsAt.get {w : World} {ad : Option Addr} {n : Nat} {F : Nat → Til} (h : TilsAt w ad n F) {j : Nat} (hj : j < n) : ∃ b off, ad = some ⟨b, off, none⟩ ∧ TilIn w b (off + j * 10) (F j) := by
  rcases h with rfl | ⟨b, off, e, h⟩
  · exact absurd hj (Nat.not_lt_zero _)
  · exact ⟨b, off, e, h j hj⟩
/-- Tiles so far, in a row of the call's own. -/
def TilSo (T : TypeId) (B : Nat) (w : World) (F : Nat → Til) (k : Nat) (v : Value) : Prop := ∃ us, us.length = k ∧ OwnRec T 10 w B v us ∧ ∀ j, j < k → us.getD j [] = tilCells (F j)
theorem TilSo.nil (T : TypeId) (B : Nat) (w : World) (F : Nat → Til) : TilSo T B w F 0 (.slice none 0 0) := ⟨[], rfl, OwnRec.nil _ _ _ _, fun _ h => absurd h (Nat.not_lt_zero _)⟩
theorem TilSo.below {T : TypeId} {B : Nat} {w w' : World} {F : Nat → Til} {k : Nat} {v : Value} (h : TilSo T B w F k v) (hb : Below w.heap.size w w') : TilSo T B w' F k v := by
  obtain ⟨us, hu, ho, hc⟩ := h
  exact ⟨us, hu, ho.below hb, hc⟩
/-- One tile more. -/
theorem TilSo.more {T : TypeId} {B : Nat} {wc w2 : World} {F : Nat → Til} {k : Nat} {v v' : Value} {us : List (List Value)} (hu : us.length = k) (ho : OwnRec T 10 wc B v us) (hc : ∀ j, j < k → us.getD j [] = tilCells (F j))
    (own : w2.ownsRow B T 10 v' (k + 1) (us.flatten ++ tilCells (F k))) : TilSo T B w2 F (k + 1) v' := by
  refine ⟨us ++ [tilCells (F k)], by rw [List.length_append, hu]; rfl, OwnRec.more ho.2 rfl (by rw [hu]) own, fun j hj => ?_⟩
  by_cases e : j = k
  · subst e
    rw [← hu, List.getD_eq_getElem?_getD, List.getElem?_append_right (Nat.le_refl _), Nat.sub_self]
    rfl
  · rw [List.getD_eq_getElem?_getD, List.getElem?_append_left (by omega), ← List.getD_eq_getElem?_getD]
    exact hc j (by omega)
theorem TilSo.read {T : TypeId} {B : Nat} {w : World} {F : Nat → Til} {k : Nat} {v : Value} (h : TilSo T B w F k v) : ∃ ad cap, v = .slice ad k cap ∧ TilsAt w ad k F ∧ (ad = none → cap = 0) := by
  obtain ⟨us, hu, ho, hc⟩ := h
  by_cases e : us = []
  · subst e
    obtain ⟨ad, cap, rfl, _, hz⟩ := ho.form rfl
    have hk0 : k = 0 := by simpa using hu.symm
    subst hk0
    exact ⟨ad, cap, rfl, .inl rfl, hz⟩
  · obtain ⟨g, cap, rfl, _, _, _, hr⟩ := ho.read e
    rw [hu]
    refine ⟨_, cap, rfl, .inr ⟨g, 0, rfl, fun j hj => ?_⟩, fun e => by cases e⟩
    have R := hr j (by omega)
    unfold recAt at R
    rw [hc j hj] at R
    rw [Nat.zero_add]
    exact ⟨R 0 (by decide), R 1 (by decide), R 2 (by decide), R 3 (by decide), R 4 (by decide), R 5 (by decide), R 6 (by decide), R 7 (by decide), R 8 (by decide), R 9 (by decide)⟩
theorem til_one (t : Til) : ∀ u ∈ [.int .i64 t.tn, .int .i64 t.tx, .int .i64 t.ty, .int .i64 t.tw, .int .i64 t.th, .int .i64 t.fx, .int .i64 t.fy, .int .i64 t.cx, .int .i64 t.cy, .int .i64 t.rg], Value.oneCell' u = true := by
  intro u hu
  simp only [List.mem_cons, List.not_mem_nil, or_false] at hu
  rcases hu with rfl | rfl | rfl | rfl | rfl | rfl | rfl | rfl | rfl | rfl <;> rfl
end Go.Proofs.YtdpkigdfhfippaaGreatDoor

/- Tables: all taps of an output come to just 2^14. Out of what the program's calls answer, that a resize has no code, and no great size. -/
namespace Go.Proofs.YtdpkigdfhfippaaGreatDoor
open Go.RowKit


theorem code_line {f n : Int} {m : Nat} (h : resCode f n m = 0) (hB : resB f n m = true) {j : Nat} (hj : j < m) : Fits (rowI f n m j) := by
  unfold resCode at h
  rw [if_pos hB, Int.toNat_natCast] at h
  exact appCode_fits.1 (firstCode_code h hj).1
end Go.Proofs.YtdpkigdfhfippaaGreatDoor

/- Weights that come to one: the law on sums and shares. -/
namespace Go.Proofs.YtdpkigdfhfippaaGreatDoor
open Go.RowKit

theorem app_within {l : List Int} (h : Fits l) : ∀ x ∈ appR l, -67108865 ≤ x ∧ x ≤ 67108865 := by
  obtain ⟨len, _, each, _⟩ := app_facts h
  refine getD_mem fun j hj => ?_
  rw [len] at hj
  have q := quotW_small h.s0 (mem_getD h.small hj)
  rcases each j hj with e | ⟨e, _⟩ <;> omega
end Go.Proofs.YtdpkigdfhfippaaGreatDoor

/- Tables of the program: what its lines are like. Plain lists. -/
namespace Go.Proofs.YtdpkigdfhfippaaGreatDoor
open Go.RowKit


theorem appR_64 {l : List Int} (h : Fits l) : All64 (appR l) := by
  intro j hj
  have hm : (appR l).getD j 0 ∈ appR l := by
    rw [List.getD_eq_getElem?_getD, List.getElem?_eq_getElem hj]
    exact List.getElem_mem hj
  have := app_within h _ hm
  omega
theorem lines_ok {f n : Int} {m : Nat} (h : resCode f n m = 0) (hB : resB f n m = true) : LinesOk (linesTo f n m m) := by
  intro j hj
  rw [linesTo_len] at hj
  rw [show lnAt (linesTo f n m m) j = lineR f n m j from lnAt_map _ hj]
  have hF := code_line h hB hj
  obtain ⟨f0, f1, ⟨n0, n1⟩, m0, m1⟩ := (resB_iff f n m).1 hB
  have hM : MayP f n m j := ⟨f0, f1, n0, n1, by omega, by omega, by omega, by omega⟩
  obtain ⟨a, b, c, d⟩ := row_ends hM
  refine ⟨?_, ?_, ?_, ?_, appR_64 hF⟩
  · show _ ≤ startR f n m j; omega
  · show startR f n m j ≤ _; omega
  · show 1 ≤ (appR (rowI f n m j)).length; rw [appR_length, rowI_len]; exact c
  · show (appR (rowI f n m j)).length ≤ _; rw [appR_length, rowI_len]; omega
theorem fil_at {xs : List Int} {k j : Nat} (h : j < k) : lnAt (filTo xs k) j = filLine xs j := lnAt_map _ h
theorem fil_ok {xs : List Int} (h : Fits xs) {k : Nat} (hk : k ≤ 65536) : LinesOk (filTo xs k) := by
  intro j hj
  rw [filTo_len] at hj
  rw [fil_at hj]
  have h2 := appR_64 h
  obtain ⟨h0, h1, _⟩ := h
  refine ⟨?_, ?_, ?_, ?_, h2⟩
  · show _ ≤ (j : Int) - ((xs.length / 2 : Nat) : Int); omega
  · show (j : Int) - ((xs.length / 2 : Nat) : Int) ≤ _; omega
  · show 1 ≤ (appR xs).length; rw [appR_length]; exact h0
  · show (appR xs).length ≤ _; rw [appR_length]; exact h1
theorem fil_moves (xs : List Int) (k : Nat) : Moves (filTo xs k) := by
  intro j hj
  rw [filTo_len] at hj
  rw [fil_at (show j < k by omega), fil_at hj]
  refine ⟨?_, ?_⟩
  · show (j : Int) - ((xs.length / 2 : Nat) : Int) ≤ ((j + 1 : Nat) : Int) - ((xs.length / 2 : Nat) : Int); omega
  · show (j : Int) - ((xs.length / 2 : Nat) : Int) + ((appR xs).length : Int) ≤ ((j + 1 : Nat) : Int) - ((xs.length / 2 : Nat) : Int) + ((appR xs).length : Int); omega
/-- Lines whose taps are all the same. -/
theorem most_all {L : List (Int × List Int)} {ts : List Int} (h : ∀ j, j < L.length → (lnAt L j).2 = ts) (h0 : 1 ≤ L.length) : mostF L = (ts.length : Int) ∧ sizeF L = sizeH ts := by
  have e : ∀ o, o ≤ L.length → mostTo L o = (if o = 0 then 0 else (ts.length : Int)) ∧ sizeTo L o = (if o = 0 then 0 else sizeH ts) := by
    intro o ho
    induction o with
    | zero => exact ⟨rfl, rfl⟩
    | succ o ih =>
      obtain ⟨a, b⟩ := ih (by omega)
      have s : mostTo L (o + 1) = max (mostTo L o) ((lnAt L o).2.length : Int) := rfl
      have t : sizeTo L (o + 1) = max (sizeTo L o) (sizeH (lnAt L o).2) := rfl
      have z := (sizeH_in ts).1
      rw [s, t, a, b, h o (by omega), if_neg (show o + 1 ≠ 0 by omega), if_neg (show o + 1 ≠ 0 by omega)]
      constructor
      · split <;> omega
      · split <;> omega
  obtain ⟨a, b⟩ := e L.length (Nat.le_refl _)
  rw [if_neg (show L.length ≠ 0 by omega)] at a b
  exact ⟨a, b⟩
/-! ### What some outputs take, of lines that move on -/
theorem reach_none {L : List (Int × List Int)} {i k : Int} (h : min k (L.length : Int) ≤ max i 0) : reachF L i k = (0, 0, false) := by
  have e : ∀ o, o ≤ L.length → reachTo L i k o = (0, 0, false) := by
    intro o ho
    induction o with
    | zero => rfl
    | succ o ih =>
      unfold reachTo
      rw [if_pos (by omega)]
      exact ih (by omega)
  exact e _ (Nat.le_refl _)
theorem reach_part {L : List (Int × List Int)} (hM : Moves L) {i k : Int} {p q : Nat} (hp : (p : Int) = max i 0) (hq : (q : Int) + 1 = min k (L.length : Int)) (h : p ≤ q) :
    reachF L i k = ((lnAt L p).1, (lnAt L q).1 + ((lnAt L q).2.length : Int), true) := by
  have e0 : reachTo L i k p = (0, 0, false) := by
    by_cases g : i ≤ 0
    · obtain rfl : p = 0 := by omega
      rfl
    · exact reach_below p (by omega)
  have e : ∀ d, p + d ≤ q → reachTo L i k (p + d + 1) = ((lnAt L p).1, (lnAt L (p + d)).1 + ((lnAt L (p + d)).2.length : Int), true) ∧ (lnAt L p).1 ≤ (lnAt L (p + d)).1 := by
    intro d hd
    induction d with
    | zero =>
      refine ⟨?_, Int.le_refl _⟩
      show (if (p : Int) < i ∨ k ≤ (p : Int) then _ else _) = _
      rw [if_neg (by omega), show p + 0 = p from rfl, e0]
      rfl
    | succ d ih =>
      obtain ⟨a, b⟩ := ih (by omega)
      obtain ⟨m0, m1⟩ := hM (p + d) (by omega)
      have s : reachTo L i k (p + (d + 1) + 1) = if ((p + d + 1 : Nat) : Int) < i ∨ k ≤ ((p + d + 1 : Nat) : Int) then reachTo L i k (p + d + 1) else reachStep (reachTo L i k (p + d + 1)) (lnAt L (p + d + 1)).1 (lnAt L (p + d + 1)).2.length := rfl
      rw [s, if_neg (by omega), a]
      refine ⟨?_, by show _ ≤ (lnAt L (p + d + 1)).1; omega⟩
      show (min (lnAt L p).1 (lnAt L (p + d + 1)).1, max ((lnAt L (p + d)).1 + ((lnAt L (p + d)).2.length : Int)) ((lnAt L (p + d + 1)).1 + ((lnAt L (p + d + 1)).2.length : Int)), true) = _
      rw [Int.min_eq_left (by omega), Int.max_eq_right m1]
      rfl
  obtain ⟨a, _⟩ := e (q - p) (by omega)
  rw [show p + (q - p) = q by omega] at a
  unfold reachF
  obtain ⟨d, hd⟩ : ∃ d, L.length = q + 1 + d := ⟨L.length - (q + 1), by omega⟩
  rw [hd]
  by_cases g : k ≤ ((q + 1 : Nat) : Int)
  · rw [reach_above (q + 1) d g]; exact a
  · obtain rfl : d = 0 := by omega
    exact a
end Go.Proofs.YtdpkigdfhfippaaGreatDoor

/- What 'make' makes of numbers of 64 bits. -/
namespace Go.Proofs.YtdpkigdfhfippaaGreatDoor
open Go.RowKit


theorem infoI64Q : (Tryz.prog.info? 2).map (fun i => (i.zero, i.size, i.bytes)) = some (some (.int .i64 0), 1, 8) := by kernel_rfl
theorem make64 (n : Nat) (h : n ≤ 1048576) : ∃ zs : Array Value, (∀ w : World, (Instr.makeSlice 24 (.int .i64 (n : Int)) (.int .i64 (n : Int))).run Tryz.prog w = .ok (.slice (some ⟨w.heap.size, 0, none⟩) n n) (w.alloc (.cells zs 2))) ∧ (∀ (w : World) (B : Nat), B ≤ w.heap.size → OwnI .i64 2 (w.alloc (.cells zs 2)) B (.slice (some ⟨w.heap.size, 0, none⟩) n n) (List.replicate n 0)) ∧ zs.toList = List.replicate n (.int .i64 0) := by
  obtain ⟨i0, hi, hz0, hz1, hz2⟩ := info_parts infoI64Q
  have hm : (n : Int) ≤ 9223372036854775807 := by omega
  refine ⟨madeCells (Value.int .i64 0).cells (n * i0.size), fun w => ?_, fun w B hB => ?_, ?_⟩
  · have hr := run_make (P := Tryz.prog) w 24 2 i0 (.int .i64 0) Tryz.underlying24 hi hz0 .i64 .i64 n n (by omega) (Int.le_refl _) (by rw [hz2]; omega) hm
    simpa only [Int.toNat_natCast] using hr
  · refine OwnI.made ?_
    rw [hz1]
    exact World.ownsRow_lit w _ n hB (by unfold maxLen; omega) (by rw [size_madeCells])
  · rw [hz1, Nat.mul_one]; exact toList_madeCells_one _ _
end Go.Proofs.YtdpkigdfhfippaaGreatDoor
