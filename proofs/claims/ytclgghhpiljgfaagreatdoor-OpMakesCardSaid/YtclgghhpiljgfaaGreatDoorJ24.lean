/- Parts, joined. -/
import Derived.Test.YtclgghhpiljgfaaGreatDoorJ19
import Derived.Test.YtclgghhpiljgfaaGreatDoorJ23
import Derived.Deep.LoopGhost
import Derived.Deep.QuietTactic
import Derived.BigQuiet
import Derived.Maps.AppendAt
import Derived.Maps.Range
import Derived.Deep.AppendLies
import Derived.Lib.LazyBuf
/- Weights that come to one: the law on sums and shares. -/
namespace Go.Proofs.YtclgghhpiljgfaaGreatDoor
open Go.RowKit

theorem app_within {l : List Int} (h : Fits l) : ∀ x ∈ appR l, -67108865 ≤ x ∧ x ≤ 67108865 := by
  obtain ⟨len, _, each, _⟩ := app_facts h
  refine getD_mem fun j hj => ?_
  rw [len] at hj
  have q := quotW_small h.s0 (mem_getD h.small hj)
  rcases each j hj with e | ⟨e, _⟩ <;> omega
end Go.Proofs.YtclgghhpiljgfaaGreatDoor

/- Tables of the program: what its lines are like. Plain lists. -/
namespace Go.Proofs.YtclgghhpiljgfaaGreatDoor
open Go.RowKit


theorem appR_64 {l : List Int} (h : Fits l) : All64 (appR l) := by
  intro j hj
  have hm : (appR l).getD j 0 ∈ appR l := by
    rw [List.getD_eq_getElem?_getD, List.getElem?_eq_getElem hj]
    exact List.getElem_mem hj
  have := app_within h _ hm
  omega
theorem lines_ok {f n : Int} {m : Nat} (h : resCode f n m = 0) (hB : resB f n m = true) : LinesOk (linesTo f n m m) := by
  intro j hj
  rw [linesTo_len] at hj
  rw [show lnAt (linesTo f n m m) j = lineR f n m j from lnAt_map _ hj]
  have hF := code_line h hB hj
  obtain ⟨f0, f1, ⟨n0, n1⟩, m0, m1⟩ := (resB_iff f n m).1 hB
  have hM : MayP f n m j := ⟨f0, f1, n0, n1, by omega, by omega, by omega, by omega⟩
  obtain ⟨a, b, c, d⟩ := row_ends hM
  refine ⟨?_, ?_, ?_, ?_, appR_64 hF⟩
  · show _ ≤ startR f n m j; omega
  · show startR f n m j ≤ _; omega
  · show 1 ≤ (appR (rowI f n m j)).length; rw [appR_length, rowI_len]; exact c
  · show (appR (rowI f n m j)).length ≤ _; rw [appR_length, rowI_len]; omega
theorem fil_at {xs : List Int} {k j : Nat} (h : j < k) : lnAt (filTo xs k) j = filLine xs j := lnAt_map _ h
theorem fil_ok {xs : List Int} (h : Fits xs) {k : Nat} (hk : k ≤ 65536) : LinesOk (filTo xs k) := by
  intro j hj
  rw [filTo_len] at hj
  rw [fil_at hj]
  have h2 := appR_64 h
  obtain ⟨h0, h1, _⟩ := h
  refine ⟨?_, ?_, ?_, ?_, h2⟩
  · show _ ≤ (j : Int) - ((xs.length / 2 : Nat) : Int); omega
  · show (j : Int) - ((xs.length / 2 : Nat) : Int) ≤ _; omega
  · show 1 ≤ (appR xs).length; rw [appR_length]; exact h0
  · show (appR xs).length ≤ _; rw [appR_length]; exact h1
theorem fil_moves (xs : List Int) (k : Nat) : Moves (filTo xs k) := by
  intro j hj
  rw [filTo_len] at hj
  rw [fil_at (show j < k by omega), fil_at hj]
  refine ⟨?_, ?_⟩
  · show (j : Int) - ((xs.length / 2 : Nat) : Int) ≤ ((j + 1 : Nat) : Int) - ((xs.length / 2 : Nat) : Int); omega
  · show (j : Int) - ((xs.length / 2 : Nat) : Int) + ((appR xs).length : Int) ≤ ((j + 1 : Nat) : Int) - ((xs.length / 2 : Nat) : Int) + ((appR xs).length : Int); omega
/-- Lines whose taps are all the same. -/
theorem most_all {L : List (Int × List Int)} {ts : List Int} (h : ∀ j, j < L.length → (lnAt L j).2 = ts) (h0 : 1 ≤ L.length) : mostF L = (ts.length : Int) ∧ sizeF L = sizeH ts := by
  have e : ∀ o, o ≤ L.length → mostTo L o = (if o = 0 then 0 else (ts.length : Int)) ∧ sizeTo L o = (if o = 0 then 0 else sizeH ts) := by
    intro o ho
    induction o with
    | zero => exact ⟨rfl, rfl⟩
    | succ o ih =>
      obtain ⟨a, b⟩ := ih (by omega)
      have s : mostTo L (o + 1) = max (mostTo L o) ((lnAt L o).2.length : Int) := rfl
      have t : sizeTo L (o + 1) = max (sizeTo L o) (sizeH (lnAt L o).2) := rfl
      have z := (sizeH_in ts).1
      rw [s, t, a, b, h o (by omega), if_neg (show o + 1 ≠ 0 by omega), if_neg (show o + 1 ≠ 0 by omega)]
      constructor
      · split <;> omega
      · split <;> omega
  obtain ⟨a, b⟩ := e L.length (Nat.le_refl _)
  rw [if_neg (show L.length ≠ 0 by omega)] at a b
  exact ⟨a, b⟩
/-! ### What some outputs take, of lines that move on -/
theorem reach_none {L : List (Int × List Int)} {i k : Int} (h : min k (L.length : Int) ≤ max i 0) : reachF L i k = (0, 0, false) := by
  have e : ∀ o, o ≤ L.length → reachTo L i k o = (0, 0, false) := by
    intro o ho
    induction o with
    | zero => rfl
    | succ o ih =>
      unfold reachTo
      rw [if_pos (by omega)]
      exact ih (by omega)
  exact e _ (Nat.le_refl _)
theorem reach_part {L : List (Int × List Int)} (hM : Moves L) {i k : Int} {p q : Nat} (hp : (p : Int) = max i 0) (hq : (q : Int) + 1 = min k (L.length : Int)) (h : p ≤ q) :
    reachF L i k = ((lnAt L p).1, (lnAt L q).1 + ((lnAt L q).2.length : Int), true) := by
  have e0 : reachTo L i k p = (0, 0, false) := by
    by_cases g : i ≤ 0
    · obtain rfl : p = 0 := by omega
      rfl
    · exact reach_below p (by omega)
  have e : ∀ d, p + d ≤ q → reachTo L i k (p + d + 1) = ((lnAt L p).1, (lnAt L (p + d)).1 + ((lnAt L (p + d)).2.length : Int), true) ∧ (lnAt L p).1 ≤ (lnAt L (p + d)).1 := by
    intro d hd
    induction d with
    | zero =>
      refine ⟨?_, Int.le_refl _⟩
      show (if (p : Int) < i ∨ k ≤ (p : Int) then _ else _) = _
      rw [if_neg (by omega), show p + 0 = p from rfl, e0]
      rfl
    | succ d ih =>
      obtain ⟨a, b⟩ := ih (by omega)
      obtain ⟨m0, m1⟩ := hM (p + d) (by omega)
      have s : reachTo L i k (p + (d + 1) + 1) = if ((p + d + 1 : Nat) : Int) < i ∨ k ≤ ((p + d + 1 : Nat) : Int) then reachTo L i k (p + d + 1) else reachStep (reachTo L i k (p + d + 1)) (lnAt L (p + d + 1)).1 (lnAt L (p + d + 1)).2.length := rfl
      rw [s, if_neg (by omega), a]
      refine ⟨?_, by show _ ≤ (lnAt L (p + d + 1)).1; omega⟩
      show (min (lnAt L p).1 (lnAt L (p + d + 1)).1, max ((lnAt L (p + d)).1 + ((lnAt L (p + d)).2.length : Int)) ((lnAt L (p + d + 1)).1 + ((lnAt L (p + d + 1)).2.length : Int)), true) = _
      rw [Int.min_eq_left (by omega), Int.max_eq_right m1]
      rfl
  obtain ⟨a, _⟩ := e (q - p) (by omega)
  rw [show p + (q - p) = q by omega] at a
  unfold reachF
  obtain ⟨d, hd⟩ : ∃ d, L.length = q + 1 + d := ⟨L.length - (q + 1), by omega⟩
  rw [hd]
  by_cases g : k ≤ ((q + 1 : Nat) : Int)
  · rw [reach_above (q + 1) d g]; exact a
  · obtain rfl : d = 0 := by omega
    exact a
end Go.Proofs.YtclgghhpiljgfaaGreatDoor

/- What a store in one block leaves alone; pieces of rows. No number of the program stands in it. -/
namespace Go.Proofs.YtclgghhpiljgfaaGreatDoor
open Go.RowKit


/-- Nothing that there was is turned, but the block b. -/
theorem grown_set (w : World) (b o : Nat) (u : Value) : w.grownBy (w.setCell ⟨b, o, none⟩ u) (some b) :=
  ⟨rfl, rfl, rfl, by simp [World.setCell], fun k hk hne => Below.heap_setCell _ _ _ _ (fun e => hne (by rw [e]))⟩
theorem grown_drewN (w : World) (n : Nat) (row : Option Nat) : w.grownBy (w.drewN n) row := ⟨rfl, rfl, rfl, Nat.le_refl _, fun _ _ _ => rfl⟩
theorem grown_drew (w : World) (row : Option Nat) : w.grownBy w.drew row := ⟨rfl, rfl, rfl, Nat.le_refl _, fun _ _ _ => rfl⟩
theorem grown_below {w w' : World} (h : Below w.heap.size w w') (row : Option Nat) : w.grownBy w' row := ⟨h.os, h.tape, h.output, h.size, fun k hk _ => h.block k hk⟩
theorem below_grown {w w' : World} (h : w.grownBy w' none) : Below w.heap.size w w' := ⟨h.os, h.tape, h.output, h.size, fun k hk => h.block k hk (by simp)⟩
/-- A cell of another block. -/
theorem cg {w w' : World} {row : Option Nat} {b o : Nat} {v : Value} (hg : w.grownBy w' row) (hne : some b ≠ row) (hc : w.cell? ⟨b, o, none⟩ = some v) : w'.cell? ⟨b, o, none⟩ = some v := hg.cell hc hne
theorem fg {w w' : World} {row : Option Nat} {b o : Nat} {v : Value} (hg : w.grownBy w' row) (hne : some b ≠ row) (hc : w.cell? ⟨b, o, none⟩ = some v) (hf : w.frozen? ⟨b, o, none⟩ = false) : w'.frozen? ⟨b, o, none⟩ = false :=
  (hg.frozen_far ⟨b, o, none⟩ (cell_ltL hc) hne).trans hf
theorem RowAt.grown {k : IntKind} {w w' : World} {b off : Nat} {xs : List Int} {row : Option Nat} (h : RowAt k w (some ⟨b, off, none⟩) xs) (hg : w.grownBy w' row) (hne : some b ≠ row) : RowAt k w' (some ⟨b, off, none⟩) xs := by
  by_cases e : xs = []
  · exact Or.inl e
  · exact Or.inr ⟨b, off, rfl, fun j hj => cg hg hne (h.at hj)⟩
/-- A piece of a row. -/
theorem RowAt.part {k : IntKind} {w : World} {b off : Nat} {xs : List Int} (h : RowAt k w (some ⟨b, off, none⟩) xs) (i n : Nat) (hn : i + n ≤ xs.length) : RowAt k w (some ⟨b, off + i, none⟩) ((xs.drop i).take n) := by
  refine Or.inr ⟨b, off + i, rfl, fun j hj => ?_⟩
  have hj' : j < n := by rw [List.length_take] at hj; omega
  have := h.at (j := i + j) (by omega)
  rw [← Nat.add_assoc] at this
  rw [this, List.getD_eq_getElem?_getD, List.getD_eq_getElem?_getD, List.getElem?_take, if_pos hj', List.getElem?_drop]
/-- One number of it is written over. -/
theorem RowAt.put {k : IntKind} {w : World} {b off : Nat} {xs : List Int} (h : RowAt k w (some ⟨b, off, none⟩) xs) (j : Nat) (hj : j < xs.length) (x : Int) : RowAt k (w.setCell ⟨b, off + j, none⟩ (.int k x)) (some ⟨b, off, none⟩) (xs.set j x) := by
  refine Or.inr ⟨b, off, rfl, fun i hi => ?_⟩
  rw [List.length_set] at hi
  by_cases e : i = j
  · subst e
    rw [World.cell?_setCell_same' _ _ _ (by rw [h.at hi]; rfl), List.getD_eq_getElem?_getD, List.getElem?_set_self hi]
    rfl
  · rw [World.cell?_setCell_other _ _ _ _ (by intro e'; simp only [Addr.mk.injEq, and_true] at e'; omega), h.at hi, List.getD_eq_getElem?_getD, List.getD_eq_getElem?_getD, List.getElem?_set_ne (fun g => e g.symm)]
theorem own_row {k : IntKind} {T : TypeId} {w : World} {base n : Nat} {v : Value} {xs : List Int} (h : OwnI k T w base v xs) (hn : xs.length = n) (h0 : 1 ≤ n) :
    ∃ b cap, v = .slice (some ⟨b, 0, none⟩) n cap ∧ base ≤ b ∧ b < w.heap.size ∧ RowAt k w (some ⟨b, 0, none⟩) xs ∧ n ≤ cap ∧ ∀ j, w.frozen? ⟨b, j, none⟩ = false := by
  have h' := h
  subst hn
  obtain ⟨ad, cap, rfl, hr, hz, hs, hc⟩ := h.form
  rcases ad with _ | a
  · have := (hz rfl).1
    rw [this] at h0
    exact absurd h0 (by decide)
  · obtain ⟨g, rfl, hb, hl⟩ := hs a rfl
    exact ⟨g, cap, rfl, hb, hl, hr, hc, fun j => OwnI.frozenAt h' rfl j⟩
/-- The world but for how much of the tape is drawn. -/
def Drew (w w' : World) : Prop := ∃ m, w' = w.drewN m
theorem Drew.refl (w : World) : Drew w w := ⟨0, rfl⟩
theorem Drew.more {w w' : World} (h : Drew w w') (n : Nat) : Drew w (w'.drewN n) := by
  obtain ⟨m, rfl⟩ := h
  exact ⟨m + n, World.drewN_drewN _ _ _⟩
theorem Drew.below {w w' : World} (h : Drew w w') : Below w.heap.size w w' := by
  obtain ⟨m, rfl⟩ := h
  exact bdN (Below.refl _ _) m
theorem Drew.grown {w w' : World} (h : Drew w w') (row : Option Nat) : w.grownBy w' row := grown_below h.below row
/-- A callee that only draws, in a region that draws and only reads. -/
theorem calmD {P : Program} {f : FuncId} {args : Array Value} {u : Value} {w : World} {n : Nat} (h : Calls P f args (w.drewN n) fun e w' => e = .returned u ∧ Drew (w.drewN n) w') :
    Calls P f args (w.drewN n) fun e w'' => e = .returned u ∧ ∃ m, w'' = w.drewN m := Calls.quiet_of h
end Go.Proofs.YtclgghhpiljgfaaGreatDoor

/- The program's table in memory: what it holds, its getters, a line, what some outputs take. -/
namespace Go.Proofs.YtclgghhpiljgfaaGreatDoor
open Go.RowKit


theorem infoLnT : (Tryz.prog.info? 38).map (fun i => (i.zero, i.size, i.bytes)) = some (some (.agg #[.int .i64 0, .slice none 0 0]), 2, 32) := by kernel_rfl
/-- Lines of a table in memory, each one's taps at the head of a block. -/
def LinesHead (w : World) (h : Nat) (L : List (Int × List Int)) : Prop :=
  ∀ j, j < L.length → w.cell? ⟨h, j * 2, none⟩ = some (.int .i64 (lnAt L j).1) ∧ ∃ b cap, w.cell? ⟨h, j * 2 + 1, none⟩ = some (.slice (some ⟨b, 0, none⟩) (lnAt L j).2.length cap) ∧ RowAt .i64 w (some ⟨b, 0, none⟩) (lnAt L j).2
theorem LinesHead.lines {w : World} {h : Nat} {L : List (Int × List Int)} (H : LinesHead w h L) : LinesAt w h L := by
  intro j hj
  obtain ⟨c1, b, cap, c2, hr⟩ := H j hj
  exact ⟨c1, _, c2, _, cap, rfl, hr⟩
theorem LinesHead.below {w w' : World} {h : Nat} {L : List (Int × List Int)} (H : LinesHead w h L) (hb : Below w.heap.size w w') : LinesHead w' h L := by
  intro j hj
  obtain ⟨c1, b, cap, c2, hr⟩ := H j hj
  exact ⟨cb hb (cell_ltL c1) c1, b, cap, cb hb (cell_ltL c2) c2, hr.below hb⟩
/-- In memory v is a table from n with these lines. -/
def Tab (w : World) (v : Value) (n : Int) (L : List (Int × List Int)) : Prop :=
  ∃ g h cap, v = .pointer (some ⟨g, 0, none⟩) ∧ w.cell? ⟨g, 0, none⟩ = some (.int .i64 n) ∧ w.cell? ⟨g, 1, none⟩ = some (.slice (some ⟨h, 0, none⟩) L.length cap) ∧ w.cell? ⟨g, 2, none⟩ = some (.int .i64 (mostF L)) ∧ w.cell? ⟨g, 3, none⟩ = some (.int .i64 (sizeF L)) ∧
    LinesHead w h L ∧ LinesOk L ∧ Moves L ∧ 1 ≤ L.length ∧ L.length ≤ 65536 ∧ 1 ≤ n ∧ n ≤ 65536
/-- What memory holds of it. -/
def TabM (w : World) (v : Value) (n : Int) (L : List (Int × List Int)) : Prop :=
  ∃ g h cap, v = .pointer (some ⟨g, 0, none⟩) ∧ w.cell? ⟨g, 0, none⟩ = some (.int .i64 n) ∧ w.cell? ⟨g, 1, none⟩ = some (.slice (some ⟨h, 0, none⟩) L.length cap) ∧ w.cell? ⟨g, 2, none⟩ = some (.int .i64 (mostF L)) ∧ w.cell? ⟨g, 3, none⟩ = some (.int .i64 (sizeF L)) ∧ LinesHead w h L
theorem TabM.tab {w : World} {v : Value} {n : Int} {L : List (Int × List Int)} (h : TabM w v n L) (hok : LinesOk L) (hm : Moves L) (l0 : 1 ≤ L.length) (l1 : L.length ≤ 65536) (n0 : 1 ≤ n) (n1 : n ≤ 65536) : Tab w v n L := by
  obtain ⟨g, h, cap, e, c0, c1, c2, c3, hl⟩ := h
  exact ⟨g, h, cap, e, c0, c1, c2, c3, hl, hok, hm, l0, l1, n0, n1⟩
theorem Tab.below {w w' : World} {v : Value} {n : Int} {L : List (Int × List Int)} (h : Tab w v n L) (hb : Below w.heap.size w w') : Tab w' v n L := by
  obtain ⟨g, h, cap, rfl, c0, c1, c2, c3, hl, r⟩ := h
  have gl := cell_ltL c0
  exact ⟨g, h, cap, rfl, cb hb gl c0, cb hb gl c1, cb hb gl c2, cb hb gl c3, hl.below hb, r⟩
/-- A write to a block that has no int at its head leaves a table alone. -/
theorem Tab.kept {w w' : World} {v : Value} {n : Int} {L : List (Int × List Int)} {r : Option Nat} (h : Tab w v n L) (hg : w.grownBy w' r) (hp : ∀ b x, r = some b → w.cell? ⟨b, 0, none⟩ ≠ some (.int .i64 x)) : Tab w' v n L := by
  obtain ⟨g, h, cap, rfl, c0, c1, c2, c3, hl, hok, hm, l0, l1, n0, n1⟩ := h
  have ng : some g ≠ r := fun e => hp g _ e.symm c0
  refine ⟨g, h, cap, rfl, cg hg ng c0, cg hg ng c1, cg hg ng c2, cg hg ng c3, fun j hj => ?_, hok, hm, l0, l1, n0, n1⟩
  have nh : some h ≠ r := by
    have := (hl 0 l0).1
    rw [Nat.zero_mul] at this
    exact fun e => hp h _ e.symm this
  obtain ⟨d1, b, cp, d2, hr⟩ := hl j hj
  have nb : some b ≠ r := by
    have := hr.at (hok j hj).2.2.1
    rw [Nat.zero_add] at this
    exact fun e => hp b _ e.symm this
  exact ⟨cg hg nh d1, b, cp, cg hg nh d2, hr.grown hg nb⟩
theorem Tab.ptr {w : World} {v : Value} {n : Int} {L : List (Int × List Int)} (h : Tab w v n L) : ∃ a, v = .pointer (some a) := by
  obtain ⟨g, h, cap, rfl, _⟩ := h
  exact ⟨_, rfl⟩
theorem Tab.ok {w : World} {v : Value} {n : Int} {L : List (Int × List Int)} (h : Tab w v n L) : LinesOk L ∧ 1 ≤ L.length ∧ L.length ≤ 65536 ∧ 1 ≤ n ∧ n ≤ 65536 := by
  obtain ⟨g, h, cap, _, _, _, _, _, _, a, _, b⟩ := h
  exact ⟨a, b⟩
theorem tab_from {w : World} {v : Value} {n : Int} {L : List (Int × List Int)} (h : Tab w v n L) : Calls Tryz.prog 21 #[v] w fun e w' => e = .returned (.int .i64 n) ∧ Below w.heap.size w w' := by
  obtain ⟨g, h, cap, rfl, c0, c1, c2, c3, hl, hok, hm, l0, l1, n0, n1⟩ := h
  clear hl hok hm c1 c2 c3
  go_enter Tryz.func21, Tryz.ntmps21
  go_wp2
  go_ret
  exact ⟨rfl, Below.refl _ _⟩
theorem tab_to {w : World} {v : Value} {n : Int} {L : List (Int × List Int)} (h : Tab w v n L) : Calls Tryz.prog 22 #[v] w fun e w' => e = .returned (.int .i64 (L.length : Int)) ∧ Below w.heap.size w w' := by
  obtain ⟨g, h, cap, rfl, c0, c1, c2, c3, hl, hok, hm, l0, l1, n0, n1⟩ := h
  clear hl hok hm c0 c2 c3
  generalize L.length = m at *
  go_enter Tryz.func22, Tryz.ntmps22
  go_wp2
  go_ret
  exact ⟨rfl, Below.refl _ _⟩
theorem tab_most {w : World} {v : Value} {n : Int} {L : List (Int × List Int)} (h : Tab w v n L) : Calls Tryz.prog 10 #[v] w fun e w' => e = .returned (.int .i64 (mostF L)) ∧ Below w.heap.size w w' := by
  obtain ⟨g, h, cap, rfl, c0, c1, c2, c3, hl, hok, hm, l0, l1, n0, n1⟩ := h
  clear hl hok hm c0 c1 c3
  generalize mostF L = m at *
  go_enter Tryz.func10, Tryz.ntmps10
  go_wp2
  go_ret
  exact ⟨rfl, Below.refl _ _⟩
/-- slices.Clone. -/
theorem clone_any (xs : List Int) (n : Nat) (hn : xs.length = n) (b off cap : Nat) (h1 : n ≤ 1048576) (w : World) (hr : RowAt .i64 w (some ⟨b, off, none⟩) xs) :
    Calls Tryz.prog 30 #[.slice (some ⟨b, off, none⟩) n cap] w fun e w' => ∃ v, e = .returned v ∧ OwnI .i64 2 w' w.heap.size v xs ∧ Below w.heap.size w w' := by
  have HR := hide hr
  have HN := hide hn
  obtain ⟨i0, hi, hz0, hz1, hz2⟩ := info_parts infoI64Q
  have q : ∀ w : World, (binOp .eql 25 (.slice (some ⟨b, off, none⟩) n cap) (.slice none 0 0)).run Tryz.prog w = .ok (.bool false) w := fun w => Lib.run_eql_slice_nil w _ _ _ n cap 0 0 Tryz.underlying25
  clear hr hn
  go_enter Tryz.func30, Tryz.ntmps30
  go_wp2_with (at_builtin; refine wpList_append_row .i64 _ rfl _ _ 25 rfl w.heap.size 2 i0 (.int .i64 0) 8 Tryz.underlying25 hi hz0 hz1 hz2 rfl (.slice (some ⟨w.heap.size, 0, none⟩) 0 0) [] rfl (own_lit0 _ _ _ _ (Nat.le_refl _)) (some ⟨b, off, none⟩) n cap xs rfl HN.out (HR.out.below (below1 _ _)) (fun e => by cases e) (by simp; unfold maxLen; omega) (by simp; omega) (by simp) ?_; intro v1 w2 own2 grow2 _; have bw2 := grown_lit (Below.refl _ _) grow2; rw [List.nil_append] at own2)
  go_ret
  exact ⟨v1, rfl, own2, bw2⟩
theorem set_apart {w : World} {a b o j : Nat} {u : Value} (h : a ≠ b ∨ o ≠ j) : (w.setCell ⟨a, o, none⟩ u).cell? ⟨b, j, none⟩ = w.cell? ⟨b, j, none⟩ :=
  World.cell?_setCell_other _ _ _ _ (by intro e; simp only [Addr.mk.injEq, and_true] at e; omega)
theorem own_set {k : IntKind} {T : TypeId} {w : World} {base : Nat} {v : Value} {xs : List Int} (h : OwnI k T w base v xs) {b : Nat} (o : Nat) (u : Value) (hb : b < base) : OwnI k T (w.setCell ⟨b, o, none⟩ u) base v xs := by
  refine ⟨h.1, ?_⟩
  rcases h.2 with h2 | ⟨g', cap', cur, hv, hB, hg, r⟩
  · exact .inl h2
  · refine .inr ⟨g', cap', cur, hv, hB, ?_, r⟩
    rw [heap_setCell_other w ⟨b, o, none⟩ g' u (by show g' ≠ b; omega)]
    exact hg
set_option maxRecDepth 100000 in
theorem tab_line {w : World} {v : Value} {n : Int} {L : List (Int × List Int)} (h : Tab w v n L) (j : Nat) (hj : j < L.length) :
    Calls Tryz.prog 11 #[v, .int .i64 (j : Int)] w fun e w' => ∃ u, e = .returned (.agg #[.int .i64 (lnAt L j).1, u]) ∧ OwnI .i64 2 w' w.heap.size u (lnAt L j).2 ∧ Below w.heap.size w w' := by
  obtain ⟨g, h, cap, rfl, c0, c1, c2, c3, hl, hok, hm, l0, l1, n0, n1⟩ := h
  replace hl := hl.lines
  obtain ⟨d1, u, d2, ad, cp, rfl, hr⟩ := hl j hj
  obtain ⟨f0, f1, t0, t1, hx⟩ := hok j hj
  obtain ⟨f, ts, he⟩ : ∃ f ts, lnAt L j = (f, ts) := ⟨_, _, rfl⟩
  rw [he] at d1 d2 hr f0 f1 t0 t1 hx ⊢
  obtain ⟨m, hmm⟩ : ∃ m, ts.length = m := ⟨_, rfl⟩
  replace d1 : w.cell? ⟨h, j * 2, none⟩ = some (.int .i64 f) := d1
  replace d2 : w.cell? ⟨h, j * 2 + 1, none⟩ = some (.slice ad ts.length cp) := d2
  replace t0 : 1 ≤ ts.length := t0
  replace t1 : ts.length ≤ 1048576 := t1
  obtain ⟨b, off, rfl, _⟩ := hr.get (show 0 < ts.length by omega)
  have CC := fun w' hr => clone_any ts m hmm b off cp (by omega) w' hr
  rw [hmm] at d2 t0 t1
  obtain ⟨M, hM⟩ : ∃ M, L.length = M := ⟨_, rfl⟩
  rw [hM] at c1 hj l1
  have HR := hide hr
  have HMM := hide hmm
  have gl := cell_ltL c1
  have hlt := cell_ltL d1
  clear hl hok hm he hmm hr hx c0 c2 c3 l0 hM n0 n1 f0 f1
  go_enter Tryz.func11, Tryz.ntmps11
  go_upto_region 4 with fail
  go_region_with (go_at_call 30; (with_reducible refine (CC _ (HR.out.below (by repeat (first | exact Below.refl _ _ | (with_reducible refine bt ?_ (by assumption)) | with_reducible refine bd ?_ | with_reducible refine ba ?_ _)))).mono ?_); rintro e w4 ⟨v, rfl, own, b4⟩; obtain ⟨ad2, cap2, rfl, _, _⟩ := own.formn HMM.out; have q0 := cb b4 (b := w.heap.size) (o := 0) (v := .int .i64 0) (by simp; omega) (by simp); have q1 := cb b4 (b := w.heap.size) (o := 1) (v := .slice none 0 0) (by simp; omega) (by simp); have q2 := fb b4 (b := w.heap.size) (o := 0) (by simp; omega) (by simp); have q3 := fb b4 (b := w.heap.size) (o := 1) (by simp; omega) (by simp); have q4 := cb b4 (b := w.heap.size + 1) (o := 0) (v := .int .i64 f) (by simp) (by simp); have q5 := cb b4 (b := w.heap.size + 1) (o := 1) (v := .slice (some ⟨b, off, none⟩) m cp) (by simp) (by simp))
  all_goals go_wp2
  all_goals
    have r0 : ((w4.setCell ⟨w.heap.size, 0, none⟩ (.int .i64 f)).setCell ⟨w.heap.size, 1, none⟩ (.slice ad2 m cap2)).cell? ⟨w.heap.size, 0, none⟩ = some (.int .i64 f) := (set_apart (Or.inr (by omega))).trans (World.cell?_setCell_same' _ _ _ (by rw [q0]; rfl))
    have r1 : ((w4.setCell ⟨w.heap.size, 0, none⟩ (.int .i64 f)).setCell ⟨w.heap.size, 1, none⟩ (.slice ad2 m cap2)).cell? ⟨w.heap.size, 1, none⟩ = some (.slice ad2 m cap2) := World.cell?_setCell_same' _ _ _ (by rw [set_apart (Or.inr (by omega)), q1]; rfl)
    have own2 := own_set (own_set own 0 (.int .i64 f) (b := w.heap.size) (by simp; omega)) 1 (.slice ad2 m cap2) (b := w.heap.size) (by simp; omega)
    have own3 := own2.mono (base' := w.heap.size) (by simp; omega)
    have B5 := bs (bs (bt (bd (ba (ba (Below.refl _ w) (.cells #[.int .i64 0, .slice none 0 0] 38)) (.cells #[.int .i64 f, .slice (some ⟨b, off, none⟩) m cp] 38))) b4) (b := w.heap.size) (o := 0) (Nat.le_refl _) (.int .i64 f)) (b := w.heap.size) (o := 1) (Nat.le_refl _) (.slice ad2 m cap2)
    have E5 := hide (And.intro own3 B5)
    clear own2 own3 B5 own b4
    exact bodyPost_ret (v := .agg #[.int .i64 f, .slice ad2 m cap2]) (by simp [results, Tryz.results11, go_sem, r0, r1]) rfl ⟨.slice ad2 m cap2, rfl, E5.out.1, E5.out.2⟩
theorem tab_reach_no {w : World} {v : Value} {n : Int} {L : List (Int × List Int)} (h : Tab w v n L) (i k : Int) (hno : min k (L.length : Int) ≤ max i 0) :
    Calls Tryz.prog 43 #[v, .int .i64 i, .int .i64 k] w fun e w' => e = .returned (.tuple #[.int .i64 0, .int .i64 0]) ∧ Below w.heap.size w w' := by
  obtain ⟨g, h, cap, rfl, c0, c1, c2, c3, hl, hok, hm, l0, l1, n0, n1⟩ := h
  have gl := cell_ltL c1
  clear hl hok hm c0 c2 c3 n0 n1
  generalize L.length = M at *
  go_enter Tryz.func43, Tryz.ntmps43
  go_upto_region 1 with fail
  go_region
  all_goals go_wp2
  all_goals exact bodyPost_ret (v := .tuple #[.int .i64 0, .int .i64 0]) (by simp [results, Tryz.results43, go_sem]) rfl ⟨rfl, bd (Below.refl _ _)⟩
set_option maxRecDepth 100000 in
theorem tab_reach_yes {w : World} {v : Value} {n : Int} {L : List (Int × List Int)} (h : Tab w v n L) (i k : Int) {p q : Nat} (hp : (p : Int) = max i 0) (hq : (q : Int) + 1 = min k (L.length : Int)) (hpq : p ≤ q) :
    Calls Tryz.prog 43 #[v, .int .i64 i, .int .i64 k] w fun e w' => e = .returned (.tuple #[.int .i64 (lnAt L p).1, .int .i64 ((lnAt L q).1 + ((lnAt L q).2.length : Int) - (lnAt L p).1)]) ∧ Below w.heap.size w w' := by
  obtain ⟨g, h, cap, rfl, c0, c1, c2, c3, hl, hok, hm, l0, l1, n0, n1⟩ := h
  have gl := cell_ltL c1
  have hqM : q < L.length := by omega
  replace hl := hl.lines
  obtain ⟨d1, -⟩ := hl p (by omega)
  obtain ⟨e1, u, e2, ad, cp, rfl, -⟩ := hl q hqM
  obtain ⟨f0, f1, -, -, -⟩ := hok p (by omega)
  obtain ⟨f2, f3, t0, t1, -⟩ := hok q hqM
  obtain ⟨len, hlen⟩ : ∃ len, (lnAt L q).2.length = len := ⟨_, rfl⟩
  rw [hlen] at e2 t0 t1 ⊢
  have hlt := cell_ltL d1
  clear hl hok hm c0 c2 c3 n0 n1 hlen
  generalize (lnAt L p).1 = f at *
  generalize (lnAt L q).1 = f' at *
  generalize L.length = M at *
  go_enter Tryz.func43, Tryz.ntmps43
  go_upto_region 1 with fail
  go_cut [1, 2, 10, 17] (fun a b c d wx => a = .int .i64 (p : Int) ∧ b = .int .i64 ((q : Int) + 1) ∧ c = .int .i64 (p : Int) ∧ d = .int .i64 ((q : Int) + 1) ∧ wx = w.drew)
  case first =>
    go_region
    all_goals (go_wp2_with fail; go_meet)
    all_goals exact ⟨by rw [hp], by rw [hq], by rw [hp], by rw [hq], rfl⟩
  case rest =>
    obtain ⟨rfl, rfl, rfl, rfl, rfl⟩ := hcut
    clear hp hq
    go_wp2_with fail
    go_quiet (fail)
    go_wp2
    exact bodyPost_ret (v := .tuple #[.int .i64 f, .int .i64 (f' - f + (len : Int))]) (by simp [results, Tryz.results43, go_sem]) rfl ⟨by rw [show f' - f + (len : Int) = f' + (len : Int) - f by omega], (by repeat (first | exact Below.refl _ _ | (with_reducible refine bdN ?_ _) | with_reducible refine bd ?_ | with_reducible refine ba ?_ _))⟩
theorem tab_reach {w : World} {v : Value} {n : Int} {L : List (Int × List Int)} (h : Tab w v n L) (i k : Int) (_ : -9223372036854775808 ≤ i) (_ : i ≤ 9223372036854775807) (_ : -9223372036854775808 ≤ k) (_ : k ≤ 9223372036854775807) :
    Calls Tryz.prog 43 #[v, .int .i64 i, .int .i64 k] w fun e w' => e = .returned (.tuple #[.int .i64 (reachF L i k).1, .int .i64 ((reachF L i k).2.1 - (reachF L i k).1)]) ∧ Below w.heap.size w w' := by
  by_cases hno : min k (L.length : Int) ≤ max i 0
  · rw [reach_none hno]
    exact tab_reach_no h i k hno
  · obtain ⟨p, hp⟩ : ∃ p : Nat, (p : Int) = max i 0 := ⟨(max i 0).toNat, by omega⟩
    obtain ⟨q, hq⟩ : ∃ q : Nat, (q : Int) + 1 = min k (L.length : Int) := ⟨(min k (L.length : Int) - 1).toNat, by omega⟩
    have hM : Moves L := by
      obtain ⟨_, _, _, _, _, _, _, _, _, _, hm, _⟩ := h
      exact hm
    rw [reach_part hM hp hq (by omega)]
    exact tab_reach_yes h i k hp hq (by omega)
end Go.Proofs.YtclgghhpiljgfaaGreatDoor
