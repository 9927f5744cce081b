/- Parts, joined. -/
import Derived.Test.YtjmjgokgjeankaaGreatDoorJ29
import Derived.Test.YtjmjgokgjeankaaGreatDoorJ32
/- The program's table: what a resize calls; lines filled so far. -/
namespace Go.Proofs.YtjmjgokgjeankaaGreatDoor
open Go.RowKit


theorem tside_yes (n : Int) (n0 : 1 ≤ n) (n1 : n ≤ 65536) (w : World) :
    Calls Tryz.prog 17 #[.int .i64 n] w fun e w' => e = .returned (.bool true) ∧ w = w' := by
  go_enter Tryz.func17, Tryz.ntmps17
  go_wp2
  go_ret
  first | exact ⟨rfl, rfl⟩ | exact ⟨ret_bool (decide_eq_true (by omega)), rfl⟩
theorem tside_no (n : Int) (h : n < 1 ∨ 65536 < n) (w : World) :
    Calls Tryz.prog 17 #[.int .i64 n] w fun e w' => e = .returned (.bool false) ∧ w = w' := by
  rcases h with h | h
  all_goals
    go_enter Tryz.func17, Tryz.ntmps17
    go_wp2
    go_ret
    first | exact ⟨rfl, rfl⟩ | exact ⟨ret_bool (decide_eq_false (by omega)), rfl⟩
theorem prow_line (f n m i : Int) (h : MayP f n m i) (w : World) (hk : Kinds w) :
    Calls Tryz.prog 18 #[.int .i64 f, .int .i64 n, .int .i64 m, .int .i64 i] w fun e w' => ∃ v, e = .returned (.tuple #[.int .i64 (startR f n m i), v]) ∧ OwnI .i64 2 w' w.heap.size v (rowI f n m i) ∧ Below w.heap.size w w' := by
  refine (row_yes f n m i h w hk).mono ?_
  rintro e w1 ⟨a, c, v, hwin, rfl, ho, b⟩
  obtain ⟨rfl, rfl⟩ := win_one h.2.2.2.2.1 hwin (row_win h)
  exact ⟨v, rfl, rowI_own ho, b⟩
theorem papp_own_n (n : Nat) (xs : List Int) (hn : xs.length = n) (ad : Option Addr) (cap : Nat) (w : World) (hr : RowAt .i64 w ad xs) (hx : All64 xs) (hl : n ≤ 9223372036854775807) :
    Calls Tryz.prog 19 #[.slice ad n cap] w fun e w' => ∃ v, e = .returned (.tuple #[v, .int .i64 (appCode xs)]) ∧ (appCode xs = 0 → OwnI .i64 2 w' w.heap.size v (appR xs)) ∧ Below w.heap.size w w' := by
  subst hn
  by_cases hf : Fits xs
  · have e := appCode_fits.2 hf
    rw [e]
    refine (apportion_fits xs ad cap w hr hx hf).mono ?_
    rintro e w1 ⟨v, rfl, o, b⟩
    exact ⟨v, rfl, fun _ => o, b⟩
  · have e : appCode xs ≠ 0 := fun g => hf (appCode_fits.1 g)
    refine (apportion_any xs ad cap w hr hx hl).mono ?_
    rintro e' w1 ⟨v, rfl, _, b⟩
    exact ⟨v, rfl, fun g => absurd g e, b⟩
theorem tsize_n (n : Nat) (xs : List Int) (hn : xs.length = n) (ad : Option Addr) (cap : Nat) (w : World) (hr : RowAt .i64 w ad xs) (hx : All64 xs) (hl : n ≤ 9223372036854775807) :
    Calls Tryz.prog 20 #[.slice ad n cap] w fun e w' => e = .returned (.int .i64 (sizeH xs)) ∧ w = w' := by
  subst hn
  exact tsize_any xs ad cap w hr hx hl
/-- The block h of so many lines is filled so far; g is the table's. -/
def Fill (w : World) (g h m : Nat) (L : List (Int × List Int)) : Prop :=
  h ≠ g ∧ L.length ≤ m ∧ (∀ j, j < m * 2 → (∃ v, w.cell? ⟨h, j, none⟩ = some v) ∧ w.frozen? ⟨h, j, none⟩ = false) ∧
  ∀ j, j < L.length → w.cell? ⟨h, j * 2, none⟩ = some (.int .i64 (lnAt L j).1) ∧ ∃ b cap, w.cell? ⟨h, j * 2 + 1, none⟩ = some (.slice (some ⟨b, 0, none⟩) (lnAt L j).2.length cap) ∧ b ≠ g ∧ b ≠ h ∧ RowAt .i64 w (some ⟨b, 0, none⟩) (lnAt L j).2
theorem Fill.below {w w' : World} {g h m : Nat} {L : List (Int × List Int)} (F : Fill w g h m L) (hb : Below w.heap.size w w') : Fill w' g h m L := by
  obtain ⟨hne, hl, hc, hx⟩ := F
  refine ⟨hne, hl, fun j hj => ?_, fun j hj => ?_⟩
  · obtain ⟨⟨v, c⟩, z⟩ := hc j hj
    exact ⟨⟨v, cb hb (cell_ltL c) c⟩, fb hb (cell_ltL c) z⟩
  · obtain ⟨c1, b, cap, c2, h1, h2, hr⟩ := hx j hj
    exact ⟨cb hb (cell_ltL c1) c1, b, cap, cb hb (cell_ltL c2) c2, h1, h2, hr.below hb⟩
/-- A store in the table's own block. -/
theorem Fill.table {w : World} {g h m : Nat} {L : List (Int × List Int)} (F : Fill w g h m L) (o : Nat) (u : Value) : Fill (w.setCell ⟨g, o, none⟩ u) g h m L := by
  obtain ⟨hne, hl, hc, hx⟩ := F
  have E : ∀ j, (w.setCell ⟨g, o, none⟩ u).cell? ⟨h, j, none⟩ = w.cell? ⟨h, j, none⟩ := fun j => set_apart (Or.inl hne.symm)
  refine ⟨hne, hl, fun j hj => ?_, fun j hj => ?_⟩
  · rw [E, World.frozen?_setCell]
    exact hc j hj
  · obtain ⟨c1, b, cap, c2, h1, h2, hr⟩ := hx j hj
    exact ⟨(E _).trans c1, b, cap, (E _).trans c2, h1, h2, hr.apart h1.symm o u⟩
/-- One line more. -/
theorem Fill.more {w : World} {g h m k : Nat} {L : List (Int × List Int)} (F : Fill w g h m L) (hk : L.length = k) (hm : k < m) (f : Int) (ts : List Int) {n b cap : Nat} (hn : ts.length = n) (h1 : b ≠ g) (h2 : b ≠ h) (hr : RowAt .i64 w (some ⟨b, 0, none⟩) ts) :
    Fill ((w.setCell ⟨h, k * 2, none⟩ (.int .i64 f)).setCell ⟨h, k * 2 + 1, none⟩ (.slice (some ⟨b, 0, none⟩) n cap)) g h m (L ++ [(f, ts)]) := by
  subst hk
  subst hn
  obtain ⟨hne, hl, hc, hx⟩ := F
  obtain ⟨⟨v0, c0⟩, _⟩ := hc (L.length * 2) (by omega)
  obtain ⟨⟨v1, c1⟩, _⟩ := hc (L.length * 2 + 1) (by omega)
  have E0 : ∀ j, j ≠ L.length * 2 → j ≠ L.length * 2 + 1 → ((w.setCell ⟨h, L.length * 2, none⟩ (.int .i64 f)).setCell ⟨h, L.length * 2 + 1, none⟩ (.slice (some ⟨b, 0, none⟩) ts.length cap)).cell? ⟨h, j, none⟩ = w.cell? ⟨h, j, none⟩ := fun j g1 g2 =>
    (set_apart (Or.inr (Ne.symm g2))).trans (set_apart (Or.inr (Ne.symm g1)))
  have E1 : ((w.setCell ⟨h, L.length * 2, none⟩ (.int .i64 f)).setCell ⟨h, L.length * 2 + 1, none⟩ (.slice (some ⟨b, 0, none⟩) ts.length cap)).cell? ⟨h, L.length * 2, none⟩ = some (.int .i64 f) :=
    (set_apart (Or.inr (by omega))).trans (World.cell?_setCell_same' _ _ _ (by rw [c0]; rfl))
  have E2 : ((w.setCell ⟨h, L.length * 2, none⟩ (.int .i64 f)).setCell ⟨h, L.length * 2 + 1, none⟩ (.slice (some ⟨b, 0, none⟩) ts.length cap)).cell? ⟨h, L.length * 2 + 1, none⟩ = some (.slice (some ⟨b, 0, none⟩) ts.length cap) :=
    World.cell?_setCell_same' _ _ _ (by rw [set_apart (Or.inr (by omega)), c1]; rfl)
  refine ⟨hne, by rw [List.length_append, List.length_singleton]; omega, fun j hj => ?_, fun j hj => ?_⟩
  · rw [World.frozen?_setCell, World.frozen?_setCell]
    refine ⟨?_, (hc j hj).2⟩
    by_cases g1 : j = L.length * 2
    · subst g1; exact ⟨_, E1⟩
    by_cases g2 : j = L.length * 2 + 1
    · subst g2; exact ⟨_, E2⟩
    rw [E0 j g1 g2]
    exact (hc j hj).1
  · rw [List.length_append, List.length_singleton] at hj
    by_cases e : j = L.length
    · subst e
      rw [lnAt_new]
      exact ⟨E1, b, cap, E2, h1, h2, (hr.apart h2.symm _ _).apart h2.symm _ _⟩
    · rw [lnAt_old _ (by omega)]
      obtain ⟨d1, b', cap', d2, g1, g2, hr'⟩ := hx j (by omega)
      exact ⟨(E0 _ (by omega) (by omega)).trans d1, b', cap', (E0 _ (by omega) (by omega)).trans d2, g1, g2, (hr'.apart g2.symm _ _).apart g2.symm _ _⟩
theorem Fill.lines {w : World} {g h m : Nat} {L : List (Int × List Int)} (F : Fill w g h m L) : LinesAt w h L := by
  obtain ⟨_, _, _, hx⟩ := F
  intro j hj
  obtain ⟨c1, b, cap, c2, _, _, hr⟩ := hx j hj
  exact ⟨c1, _, c2, _, _, rfl, hr⟩
theorem Fill.start {w : World} {B g h m cap : Nat} {T : TypeId} {xs : List Value} (ho : w.ownsRow B T 2 (.slice (some ⟨h, 0, none⟩) m cap) m xs) (hne : h ≠ g) : Fill w g h m [] := by
  refine ⟨hne, Nat.zero_le _, fun j hj => ⟨?_, ho.frozenAt j⟩, fun j hj => absurd hj (Nat.not_lt_zero _)⟩
  have hl := ho.1
  rw [ho.cellAt j hj]
  exact ⟨_, List.getElem?_eq_getElem (by omega)⟩
/-- What 'make' makes of lines. -/
theorem makeLn (n : Nat) (h : n ≤ 1048576) : ∃ zs : Array Value, (∀ w : World, (Instr.makeSlice 45 (.int .i64 (n : Int)) (.int .i64 (n : Int))).run Tryz.prog w = .ok (.slice (some ⟨w.heap.size, 0, none⟩) n n) (w.alloc (.cells zs 38))) ∧ (∀ (w : World) (B : Nat), B ≤ w.heap.size → (w.alloc (.cells zs 38)).ownsRow B 38 2 (.slice (some ⟨w.heap.size, 0, none⟩) n n) n zs.toList) := by
  obtain ⟨i0, hi, hz0, hz1, hz2⟩ := info_parts infoLnT
  have hm : (n : Int) ≤ 9223372036854775807 := by omega
  refine ⟨madeCells (Value.agg #[.int .i64 0, .slice none 0 0]).cells (n * i0.size), fun w => ?_, fun w B hB => ?_⟩
  · have hr := run_make (P := Tryz.prog) w 45 38 i0 (.agg #[.int .i64 0, .slice none 0 0]) Tryz.underlying45 hi hz0 .i64 .i64 n n (by omega) (Int.le_refl _) (by rw [hz2]; omega) hm
    simpa only [Int.toNat_natCast] using hr
  · rw [hz1]
    exact World.ownsRow_lit w _ n hB (by unfold maxLen; omega) (by rw [size_madeCells])
/-- Two cells of the next line. -/
theorem Fill.room {w : World} {g h m k : Nat} {L : List (Int × List Int)} (F : Fill w g h m L) (hk : k < m) :
    (∃ v, w.cell? ⟨h, k * 2, none⟩ = some v) ∧ w.frozen? ⟨h, k * 2, none⟩ = false ∧ (∃ v, w.cell? ⟨h, k * 2 + 1, none⟩ = some v) ∧ w.frozen? ⟨h, k * 2 + 1, none⟩ = false := by
  obtain ⟨_, _, hc, _⟩ := F
  obtain ⟨a, b⟩ := hc (k * 2) (by omega)
  obtain ⟨c, d⟩ := hc (k * 2 + 1) (by omega)
  exact ⟨a, b, c, d⟩
/-- One line more, and what the table's own block holds: the most taps are written. -/
theorem fill_step {w : World} {g h m k : Nat} {L : List (Int × List Int)} (F : Fill w g h m L) (hk : L.length = k) (hm : k < m) (f : Int) (ts : List Int) {n b cap : Nat} (hn : ts.length = n) (h1 : b ≠ g) (h2 : b ≠ h) (hr : RowAt .i64 w (some ⟨b, 0, none⟩) ts)
    {x0 x1 x2 x3 : Value} (d0 : w.cell? ⟨g, 0, none⟩ = some x0) (d1 : w.cell? ⟨g, 1, none⟩ = some x1) (d2 : w.cell? ⟨g, 2, none⟩ = some x2) (d3 : w.cell? ⟨g, 3, none⟩ = some x3) (z2 : w.frozen? ⟨g, 2, none⟩ = false) (z3 : w.frozen? ⟨g, 3, none⟩ = false) (u : Value)
    {W : World} (hW : W = ((w.setCell ⟨h, k * 2, none⟩ (.int .i64 f)).setCell ⟨h, k * 2 + 1, none⟩ (.slice (some ⟨b, 0, none⟩) n cap)).setCell ⟨g, 2, none⟩ u) :
    Fill W g h m (L ++ [(f, ts)]) ∧ RowAt .i64 W (some ⟨b, 0, none⟩) ts ∧ W.cell? ⟨g, 0, none⟩ = some x0 ∧ W.cell? ⟨g, 1, none⟩ = some x1 ∧ W.cell? ⟨g, 2, none⟩ = some u ∧ W.cell? ⟨g, 3, none⟩ = some x3 ∧ W.frozen? ⟨g, 2, none⟩ = false ∧ W.frozen? ⟨g, 3, none⟩ = false := by
  subst hW
  have hne : h ≠ g := F.1
  have E : ∀ j, ((w.setCell ⟨h, k * 2, none⟩ (.int .i64 f)).setCell ⟨h, k * 2 + 1, none⟩ (.slice (some ⟨b, 0, none⟩) n cap)).cell? ⟨g, j, none⟩ = w.cell? ⟨g, j, none⟩ := fun j => (set_apart (Or.inl hne)).trans (set_apart (Or.inl hne))
  refine ⟨(F.more hk hm f ts hn h1 h2 hr).table 2 u, ((hr.apart h2.symm _ _).apart h2.symm _ _).apart h1.symm _ _, ?_, ?_, ?_, ?_, ?_, ?_⟩
  · rw [set_apart (Or.inr (by decide)), E]; exact d0
  · rw [set_apart (Or.inr (by decide)), E]; exact d1
  · exact World.cell?_setCell_same' _ _ _ (by rw [E, d2]; rfl)
  · rw [set_apart (Or.inr (by decide)), E]; exact d3
  · rw [World.frozen?_setCell, World.frozen?_setCell, World.frozen?_setCell]; exact z2
  · rw [World.frozen?_setCell, World.frozen?_setCell, World.frozen?_setCell]; exact z3
/-- The size is written. -/
theorem fill_last {w : World} {g h m : Nat} {L : List (Int × List Int)} (F : Fill w g h m L)
    {x0 x1 x2 x3 : Value} (d0 : w.cell? ⟨g, 0, none⟩ = some x0) (d1 : w.cell? ⟨g, 1, none⟩ = some x1) (d2 : w.cell? ⟨g, 2, none⟩ = some x2) (d3 : w.cell? ⟨g, 3, none⟩ = some x3) (z2 : w.frozen? ⟨g, 2, none⟩ = false) (z3 : w.frozen? ⟨g, 3, none⟩ = false) (u : Value)
    {W : World} (hW : W = w.drew.setCell ⟨g, 3, none⟩ u) :
    Fill W g h m L ∧ W.cell? ⟨g, 0, none⟩ = some x0 ∧ W.cell? ⟨g, 1, none⟩ = some x1 ∧ W.cell? ⟨g, 2, none⟩ = some x2 ∧ W.cell? ⟨g, 3, none⟩ = some u ∧ W.frozen? ⟨g, 2, none⟩ = false ∧ W.frozen? ⟨g, 3, none⟩ = false := by
  subst hW
  refine ⟨(F.below (bd (Below.refl _ _))).table 3 u, ?_, ?_, ?_, ?_, ?_, ?_⟩
  · rw [set_apart (Or.inr (by decide))]; exact d0
  · rw [set_apart (Or.inr (by decide))]; exact d1
  · rw [set_apart (Or.inr (by decide))]; exact d2
  · exact World.cell?_setCell_same' _ _ _ (by rw [show w.drew.cell? ⟨g, 3, none⟩ = w.cell? ⟨g, 3, none⟩ from rfl, d3]; rfl)
  · rw [World.frozen?_setCell]; exact z2
  · rw [World.frozen?_setCell]; exact z3
theorem most_snoc (L : List (Int × List Int)) (x : Int × List Int) : mostF (L ++ [x]) = max (mostF L) (x.2.length : Int) := by
  have e : ∀ o, o ≤ L.length → mostTo (L ++ [x]) o = mostTo L o := by
    intro o ho
    induction o with
    | zero => rfl
    | succ o ih =>
      show max (mostTo (L ++ [x]) o) ((lnAt (L ++ [x]) o).2.length : Int) = max (mostTo L o) ((lnAt L o).2.length : Int)
      rw [ih (by omega), lnAt_old x (by omega)]
  unfold mostF
  rw [List.length_append, List.length_singleton]
  show max (mostTo (L ++ [x]) L.length) ((lnAt (L ++ [x]) L.length).2.length : Int) = _
  rw [e _ (Nat.le_refl _), lnAt_new]
theorem size_snoc (L : List (Int × List Int)) (x : Int × List Int) : sizeF (L ++ [x]) = max (sizeF L) (sizeH x.2) := by
  have e : ∀ o, o ≤ L.length → sizeTo (L ++ [x]) o = sizeTo L o := by
    intro o ho
    induction o with
    | zero => rfl
    | succ o ih =>
      show max (sizeTo (L ++ [x]) o) (sizeH (lnAt (L ++ [x]) o).2) = max (sizeTo L o) (sizeH (lnAt L o).2)
      rw [ih (by omega), lnAt_old x (by omega)]
  unfold sizeF
  rw [List.length_append, List.length_singleton]
  show max (sizeTo (L ++ [x]) L.length) (sizeH (lnAt (L ++ [x]) L.length).2) = _
  rw [e _ (Nat.le_refl _), lnAt_new]
end Go.Proofs.YtjmjgokgjeankaaGreatDoor
