/- Parts, joined. -/
import Derived.Test.YtaafhjngnjjcmaaGreatDoorJ22
import Derived.Test.YtaafhjngnjjcmaaGreatDoorJ23
import Derived.Test.YtaafhjngnjjcmaaGreatDoorJ17
import Derived.Laws.OwnMore
import Derived.Deep.LoopGhost
/- The program's table: what a resize calls; lines filled so far. -/
namespace Go.Proofs.YtaafhjngnjjcmaaGreatDoor
open Go.RowKit


theorem tside_yes (n : Int) (n0 : 1 ≤ n) (n1 : n ≤ 65536) (w : World) :
    Calls Tryz.prog 64 #[.int .i64 n] w fun e w' => e = .returned (.bool true) ∧ w = w' := by
  go_enter Tryz.func64, Tryz.ntmps64
  go_wp2
  go_ret
  first | exact ⟨rfl, rfl⟩ | exact ⟨ret_bool (decide_eq_true (by omega)), rfl⟩
theorem tside_no (n : Int) (h : n < 1 ∨ 65536 < n) (w : World) :
    Calls Tryz.prog 64 #[.int .i64 n] w fun e w' => e = .returned (.bool false) ∧ w = w' := by
  rcases h with h | h
  all_goals
    go_enter Tryz.func64, Tryz.ntmps64
    go_wp2
    go_ret
    first | exact ⟨rfl, rfl⟩ | exact ⟨ret_bool (decide_eq_false (by omega)), rfl⟩
theorem prow_line (f n m i : Int) (h : MayP f n m i) (w : World) (hk : Kinds w) :
    Calls Tryz.prog 116 #[.int .i64 f, .int .i64 n, .int .i64 m, .int .i64 i] w fun e w' => ∃ v, e = .returned (.tuple #[.int .i64 (startR f n m i), v]) ∧ OwnI .i64 2 w' w.heap.size v (rowI f n m i) ∧ Below w.heap.size w w' := by
  refine (row_yes f n m i h w hk).mono ?_
  rintro e w1 ⟨a, c, v, hwin, rfl, ho, b⟩
  obtain ⟨rfl, rfl⟩ := win_one h.2.2.2.2.1 hwin (row_win h)
  exact ⟨v, rfl, rowI_own ho, b⟩
theorem papp_own_n (n : Nat) (xs : List Int) (hn : xs.length = n) (ad : Option Addr) (cap : Nat) (w : World) (hr : RowAt .i64 w ad xs) (hx : All64 xs) (hl : n ≤ 9223372036854775807) :
    Calls Tryz.prog 117 #[.slice ad n cap] w fun e w' => ∃ v, e = .returned (.tuple #[v, .int .i64 (appCode xs)]) ∧ (appCode xs = 0 → OwnI .i64 2 w' w.heap.size v (appR xs)) ∧ Below w.heap.size w w' := by
  subst hn
  by_cases hf : Fits xs
  · have e := appCode_fits.2 hf
    rw [e]
    refine (apportion_fits xs ad cap w hr hx hf).mono ?_
    rintro e w1 ⟨v, rfl, o, b⟩
    exact ⟨v, rfl, fun _ => o, b⟩
  · have e : appCode xs ≠ 0 := fun g => hf (appCode_fits.1 g)
    refine (apportion_any xs ad cap w hr hx hl).mono ?_
    rintro e' w1 ⟨v, rfl, _, b⟩
    exact ⟨v, rfl, fun g => absurd g e, b⟩
theorem tsize_n (n : Nat) (xs : List Int) (hn : xs.length = n) (ad : Option Addr) (cap : Nat) (w : World) (hr : RowAt .i64 w ad xs) (hx : All64 xs) (hl : n ≤ 9223372036854775807) :
    Calls Tryz.prog 95 #[.slice ad n cap] w fun e w' => e = .returned (.int .i64 (sizeH xs)) ∧ w = w' := by
  subst hn
  exact tsize_any xs ad cap w hr hx hl
/-- The block h of so many lines is filled so far; g is the table's. -/
def Fill (w : World) (g h m : Nat) (L : List (Int × List Int)) : Prop :=
  h ≠ g ∧ L.length ≤ m ∧ (∀ j, j < m * 2 → (∃ v, w.cell? ⟨h, j, none⟩ = some v) ∧ w.frozen? ⟨h, j, none⟩ = false) ∧
  ∀ j, j < L.length → w.cell? ⟨h, j * 2, none⟩ = some (.int .i64 (lnAt L j).1) ∧ ∃ b cap, w.cell? ⟨h, j * 2 + 1, none⟩ = some (.slice (some ⟨b, 0, none⟩) (lnAt L j).2.length cap) ∧ b ≠ g ∧ b ≠ h ∧ RowAt .i64 w (some ⟨b, 0, none⟩) (lnAt L j).2
theorem Fill.below {w w' : World} {g h m : Nat} {L : List (Int × List Int)} (F : Fill w g h m L) (hb : Below w.heap.size w w') : Fill w' g h m L := by
  obtain ⟨hne, hl, hc, hx⟩ := F
  refine ⟨hne, hl, fun j hj => ?_, fun j hj => ?_⟩
  · obtain ⟨⟨v, c⟩, z⟩ := hc j hj
    exact ⟨⟨v, cb hb (cell_ltL c) c⟩, fb hb (cell_ltL c) z⟩
  · obtain ⟨c1, b, cap, c2, h1, h2, hr⟩ := hx j hj
    exact ⟨cb hb (cell_ltL c1) c1, b, cap, cb hb (cell_ltL c2) c2, h1, h2, hr.below hb⟩
/-- A store in the table's own block. -/
theorem Fill.table {w : World} {g h m : Nat} {L : List (Int × List Int)} (F : Fill w g h m L) (o : Nat) (u : Value) : Fill (w.setCell ⟨g, o, none⟩ u) g h m L := by
  obtain ⟨hne, hl, hc, hx⟩ := F
  have E : ∀ j, (w.setCell ⟨g, o, none⟩ u).cell? ⟨h, j, none⟩ = w.cell? ⟨h, j, none⟩ := fun j => set_apart (Or.inl hne.symm)
  refine ⟨hne, hl, fun j hj => ?_, fun j hj => ?_⟩
  · rw [E, World.frozen?_setCell]
    exact hc j hj
  · obtain ⟨c1, b, cap, c2, h1, h2, hr⟩ := hx j hj
    exact ⟨(E _).trans c1, b, cap, (E _).trans c2, h1, h2, hr.apart h1.symm o u⟩
/-- One line more. -/
theorem Fill.more {w : World} {g h m k : Nat} {L : List (Int × List Int)} (F : Fill w g h m L) (hk : L.length = k) (hm : k < m) (f : Int) (ts : List Int) {n b cap : Nat} (hn : ts.length = n) (h1 : b ≠ g) (h2 : b ≠ h) (hr : RowAt .i64 w (some ⟨b, 0, none⟩) ts) :
    Fill ((w.setCell ⟨h, k * 2, none⟩ (.int .i64 f)).setCell ⟨h, k * 2 + 1, none⟩ (.slice (some ⟨b, 0, none⟩) n cap)) g h m (L ++ [(f, ts)]) := by
  subst hk
  subst hn
  obtain ⟨hne, hl, hc, hx⟩ := F
  obtain ⟨⟨v0, c0⟩, _⟩ := hc (L.length * 2) (by omega)
  obtain ⟨⟨v1, c1⟩, _⟩ := hc (L.length * 2 + 1) (by omega)
  have E0 : ∀ j, j ≠ L.length * 2 → j ≠ L.length * 2 + 1 → ((w.setCell ⟨h, L.length * 2, none⟩ (.int .i64 f)).setCell ⟨h, L.length * 2 + 1, none⟩ (.slice (some ⟨b, 0, none⟩) ts.length cap)).cell? ⟨h, j, none⟩ = w.cell? ⟨h, j, none⟩ := fun j g1 g2 =>
    (set_apart (Or.inr (Ne.symm g2))).trans (set_apart (Or.inr (Ne.symm g1)))
  have E1 : ((w.setCell ⟨h, L.length * 2, none⟩ (.int .i64 f)).setCell ⟨h, L.length * 2 + 1, none⟩ (.slice (some ⟨b, 0, none⟩) ts.length cap)).cell? ⟨h, L.length * 2, none⟩ = some (.int .i64 f) :=
    (set_apart (Or.inr (by omega))).trans (World.cell?_setCell_same' _ _ _ (by rw [c0]; rfl))
  have E2 : ((w.setCell ⟨h, L.length * 2, none⟩ (.int .i64 f)).setCell ⟨h, L.length * 2 + 1, none⟩ (.slice (some ⟨b, 0, none⟩) ts.length cap)).cell? ⟨h, L.length * 2 + 1, none⟩ = some (.slice (some ⟨b, 0, none⟩) ts.length cap) :=
    World.cell?_setCell_same' _ _ _ (by rw [set_apart (Or.inr (by omega)), c1]; rfl)
  refine ⟨hne, by rw [List.length_append, List.length_singleton]; omega, fun j hj => ?_, fun j hj => ?_⟩
  · rw [World.frozen?_setCell, World.frozen?_setCell]
    refine ⟨?_, (hc j hj).2⟩
    by_cases g1 : j = L.length * 2
    · subst g1; exact ⟨_, E1⟩
    by_cases g2 : j = L.length * 2 + 1
    · subst g2; exact ⟨_, E2⟩
    rw [E0 j g1 g2]
    exact (hc j hj).1
  · rw [List.length_append, List.length_singleton] at hj
    by_cases e : j = L.length
    · subst e
      rw [lnAt_new]
      exact ⟨E1, b, cap, E2, h1, h2, (hr.apart h2.symm _ _).apart h2.symm _ _⟩
    · rw [lnAt_old _ (by omega)]
      obtain ⟨d1, b', cap', d2, g1, g2, hr'⟩ := hx j (by omega)
      exact ⟨(E0 _ (by omega) (by omega)).trans d1, b', cap', (E0 _ (by omega) (by omega)).trans d2, g1, g2, (hr'.apart g2.symm _ _).apart g2.symm _ _⟩
theorem Fill.heads {w : World} {g h m : Nat} {L : List (Int × List Int)} (F : Fill w g h m L) : LinesHead w h L := by
  obtain ⟨_, _, _, hx⟩ := F
  intro j hj
  obtain ⟨c1, b, cap, c2, _, _, hr⟩ := hx j hj
  exact ⟨c1, b, cap, c2, hr⟩
theorem Fill.start {w : World} {B g h m cap : Nat} {T : TypeId} {xs : List Value} (ho : w.ownsRow B T 2 (.slice (some ⟨h, 0, none⟩) m cap) m xs) (hne : h ≠ g) : Fill w g h m [] := by
  refine ⟨hne, Nat.zero_le _, fun j hj => ⟨?_, ho.frozenAt j⟩, fun j hj => absurd hj (Nat.not_lt_zero _)⟩
  have hl := ho.1
  rw [ho.cellAt j hj]
  exact ⟨_, List.getElem?_eq_getElem (by omega)⟩
/-- What 'make' makes of lines. -/
theorem makeLn (n : Nat) (h : n ≤ 1048576) : ∃ zs : Array Value, (∀ w : World, (Instr.makeSlice 95 (.int .i64 (n : Int)) (.int .i64 (n : Int))).run Tryz.prog w = .ok (.slice (some ⟨w.heap.size, 0, none⟩) n n) (w.alloc (.cells zs 127))) ∧ (∀ (w : World) (B : Nat), B ≤ w.heap.size → (w.alloc (.cells zs 127)).ownsRow B 127 2 (.slice (some ⟨w.heap.size, 0, none⟩) n n) n zs.toList) := by
  obtain ⟨i0, hi, hz0, hz1, hz2⟩ := info_parts infoLnT
  have hm : (n : Int) ≤ 9223372036854775807 := by omega
  refine ⟨madeCells (Value.agg #[.int .i64 0, .slice none 0 0]).cells (n * i0.size), fun w => ?_, fun w B hB => ?_⟩
  · have hr := run_make (P := Tryz.prog) w 95 127 i0 (.agg #[.int .i64 0, .slice none 0 0]) Tryz.underlying95 hi hz0 .i64 .i64 n n (by omega) (Int.le_refl _) (by rw [hz2]; omega) hm
    simpa only [Int.toNat_natCast] using hr
  · rw [hz1]
    exact World.ownsRow_lit w _ n hB (by unfold maxLen; omega) (by rw [size_madeCells])
/-- Two cells of the next line. -/
theorem Fill.room {w : World} {g h m k : Nat} {L : List (Int × List Int)} (F : Fill w g h m L) (hk : k < m) :
    (∃ v, w.cell? ⟨h, k * 2, none⟩ = some v) ∧ w.frozen? ⟨h, k * 2, none⟩ = false ∧ (∃ v, w.cell? ⟨h, k * 2 + 1, none⟩ = some v) ∧ w.frozen? ⟨h, k * 2 + 1, none⟩ = false := by
  obtain ⟨_, _, hc, _⟩ := F
  obtain ⟨a, b⟩ := hc (k * 2) (by omega)
  obtain ⟨c, d⟩ := hc (k * 2 + 1) (by omega)
  exact ⟨a, b, c, d⟩
/-- One line more, and what the table's own block holds: the most taps are written. -/
theorem fill_step {w : World} {g h m k : Nat} {L : List (Int × List Int)} (F : Fill w g h m L) (hk : L.length = k) (hm : k < m) (f : Int) (ts : List Int) {n b cap : Nat} (hn : ts.length = n) (h1 : b ≠ g) (h2 : b ≠ h) (hr : RowAt .i64 w (some ⟨b, 0, none⟩) ts)
    {x0 x1 x2 x3 : Value} (d0 : w.cell? ⟨g, 0, none⟩ = some x0) (d1 : w.cell? ⟨g, 1, none⟩ = some x1) (d2 : w.cell? ⟨g, 2, none⟩ = some x2) (d3 : w.cell? ⟨g, 3, none⟩ = some x3) (z2 : w.frozen? ⟨g, 2, none⟩ = false) (z3 : w.frozen? ⟨g, 3, none⟩ = false) (u : Value)
    {W : World} (hW : W = ((w.setCell ⟨h, k * 2, none⟩ (.int .i64 f)).setCell ⟨h, k * 2 + 1, none⟩ (.slice (some ⟨b, 0, none⟩) n cap)).setCell ⟨g, 2, none⟩ u) :
    Fill W g h m (L ++ [(f, ts)]) ∧ RowAt .i64 W (some ⟨b, 0, none⟩) ts ∧ W.cell? ⟨g, 0, none⟩ = some x0 ∧ W.cell? ⟨g, 1, none⟩ = some x1 ∧ W.cell? ⟨g, 2, none⟩ = some u ∧ W.cell? ⟨g, 3, none⟩ = some x3 ∧ W.frozen? ⟨g, 2, none⟩ = false ∧ W.frozen? ⟨g, 3, none⟩ = false := by
  subst hW
  have hne : h ≠ g := F.1
  have E : ∀ j, ((w.setCell ⟨h, k * 2, none⟩ (.int .i64 f)).setCell ⟨h, k * 2 + 1, none⟩ (.slice (some ⟨b, 0, none⟩) n cap)).cell? ⟨g, j, none⟩ = w.cell? ⟨g, j, none⟩ := fun j => (set_apart (Or.inl hne)).trans (set_apart (Or.inl hne))
  refine ⟨(F.more hk hm f ts hn h1 h2 hr).table 2 u, ((hr.apart h2.symm _ _).apart h2.symm _ _).apart h1.symm _ _, ?_, ?_, ?_, ?_, ?_, ?_⟩
  · rw [set_apart (Or.inr (by decide)), E]; exact d0
  · rw [set_apart (Or.inr (by decide)), E]; exact d1
  · exact World.cell?_setCell_same' _ _ _ (by rw [E, d2]; rfl)
  · rw [set_apart (Or.inr (by decide)), E]; exact d3
  · rw [World.frozen?_setCell, World.frozen?_setCell, World.frozen?_setCell]; exact z2
  · rw [World.frozen?_setCell, World.frozen?_setCell, World.frozen?_setCell]; exact z3
/-- The size is written. -/
theorem fill_last {w : World} {g h m : Nat} {L : List (Int × List Int)} (F : Fill w g h m L)
    {x0 x1 x2 x3 : Value} (d0 : w.cell? ⟨g, 0, none⟩ = some x0) (d1 : w.cell? ⟨g, 1, none⟩ = some x1) (d2 : w.cell? ⟨g, 2, none⟩ = some x2) (d3 : w.cell? ⟨g, 3, none⟩ = some x3) (z2 : w.frozen? ⟨g, 2, none⟩ = false) (z3 : w.frozen? ⟨g, 3, none⟩ = false) (u : Value)
    {W : World} (hW : W = w.drew.setCell ⟨g, 3, none⟩ u) :
    Fill W g h m L ∧ W.cell? ⟨g, 0, none⟩ = some x0 ∧ W.cell? ⟨g, 1, none⟩ = some x1 ∧ W.cell? ⟨g, 2, none⟩ = some x2 ∧ W.cell? ⟨g, 3, none⟩ = some u ∧ W.frozen? ⟨g, 2, none⟩ = false ∧ W.frozen? ⟨g, 3, none⟩ = false := by
  subst hW
  refine ⟨(F.below (bd (Below.refl _ _))).table 3 u, ?_, ?_, ?_, ?_, ?_, ?_⟩
  · rw [set_apart (Or.inr (by decide))]; exact d0
  · rw [set_apart (Or.inr (by decide))]; exact d1
  · rw [set_apart (Or.inr (by decide))]; exact d2
  · exact World.cell?_setCell_same' _ _ _ (by rw [show w.drew.cell? ⟨g, 3, none⟩ = w.cell? ⟨g, 3, none⟩ from rfl, d3]; rfl)
  · rw [World.frozen?_setCell]; exact z2
  · rw [World.frozen?_setCell]; exact z3
theorem most_snoc (L : List (Int × List Int)) (x : Int × List Int) : mostF (L ++ [x]) = max (mostF L) (x.2.length : Int) := by
  have e : ∀ o, o ≤ L.length → mostTo (L ++ [x]) o = mostTo L o := by
    intro o ho
    induction o with
    | zero => rfl
    | succ o ih =>
      show max (mostTo (L ++ [x]) o) ((lnAt (L ++ [x]) o).2.length : Int) = max (mostTo L o) ((lnAt L o).2.length : Int)
      rw [ih (by omega), lnAt_old x (by omega)]
  unfold mostF
  rw [List.length_append, List.length_singleton]
  show max (mostTo (L ++ [x]) L.length) ((lnAt (L ++ [x]) L.length).2.length : Int) = _
  rw [e _ (Nat.le_refl _), lnAt_new]
theorem size_snoc (L : List (Int × List Int)) (x : Int × List Int) : sizeF (L ++ [x]) = max (sizeF L) (sizeH x.2) := by
  have e : ∀ o, o ≤ L.length → sizeTo (L ++ [x]) o = sizeTo L o := by
    intro o ho
    induction o with
    | zero => rfl
    | succ o ih =>
      show max (sizeTo (L ++ [x]) o) (sizeH (lnAt (L ++ [x]) o).2) = max (sizeTo L o) (sizeH (lnAt L o).2)
      rw [ih (by omega), lnAt_old x (by omega)]
  unfold sizeF
  rw [List.length_append, List.length_singleton]
  show max (sizeTo (L ++ [x]) L.length) (sizeH (lnAt (L ++ [x]) L.length).2) = _
  rw [e _ (Nat.le_refl _), lnAt_new]
end Go.Proofs.YtaafhjngnjjcmaaGreatDoor

/- The program's table: a resize. -/
namespace Go.Proofs.YtaafhjngnjjcmaaGreatDoor
open Go.RowKit


theorem name_some (f : Int) (f0 : 0 ≤ f) (f1 : f ≤ 2) : ∃ s, nameF f = .string s ∧ s.toList.isEmpty = false := by
  unfold nameF
  by_cases h0 : f = 0
  · rw [if_pos h0]; exact ⟨_, rfl, by decide +kernel⟩
  by_cases h1 : f = 1
  · rw [if_neg h0, if_pos h1]; exact ⟨_, rfl, by decide +kernel⟩
  · rw [if_neg h0, if_neg h1, if_pos (by omega)]; exact ⟨_, rfl, by decide +kernel⟩
theorem own_some {k : IntKind} {T : TypeId} {w : World} {base n : Nat} {v : Value} {xs : List Int} (h : OwnI k T w base v xs) (hn : xs.length = n) (h0 : 1 ≤ n) :
    ∃ b cap, v = .slice (some ⟨b, 0, none⟩) n cap ∧ base ≤ b ∧ RowAt k w (some ⟨b, 0, none⟩) xs := by
  subst hn
  obtain ⟨ad, cap, rfl, hr, hz, hs, _⟩ := h.form
  rcases ad with _ | a
  · have := (hz rfl).1
    rw [this] at h0
    exact absurd h0 (by decide)
  · obtain ⟨g, rfl, hb, _⟩ := hs a rfl
    exact ⟨g, cap, rfl, hb, hr⟩
set_option maxHeartbeats 4000000 in
set_option maxRecDepth 100000 in
theorem resize_walk (f n : Int) (m : Nat) (f0 : 0 ≤ f) (f1 : f ≤ 2) (n0 : 1 ≤ n) (n1 : n ≤ 65536) (m0 : 1 ≤ m) (m1 : m ≤ 65536) (w : World) (hk : Kinds w) :
    Calls Tryz.prog 98 #[.int .i64 f, .int .i64 n, .int .i64 (m : Int)] w fun e w' => ∃ v, e = .returned (.tuple #[v, .int .i64 (firstCode f n m m)]) ∧ (firstCode f n m m = 0 → TabM w' v n (linesTo f n m m)) ∧ (firstCode f n m m ≠ 0 → v = .pointer none) ∧ Below w.heap.size w w' := by
  have S1 := tside_yes n n0 n1
  have S2 := tside_yes (m : Int) (by omega) (by omega)
  have CN := fun w hk => name_any f (by unfold I64; omega) w hk
  obtain ⟨s, hs, s0⟩ := name_some f f0 f1
  rw [hs] at CN
  obtain ⟨i0, hi, hz0, hz1, hz2⟩ := info_parts infoLnT
  obtain ⟨cm, hcd⟩ : ∃ cm, firstCode f n m m = cm := ⟨_, rfl⟩
  rw [hcd]
  have HCD := hide hcd
  have HK := hide (fun (w' : World) (b : Below w.heap.size w w') => kinds_below hk b)
  clear hcd hs
  go_enter Tryz.func98, Tryz.ntmps98
  go_upto_region 3 with (first
    | (go_at_call 97; (with_reducible refine (CN _ hk).mono ?_); rintro e w0 ⟨rfl, b0⟩)
    | (go_at_call 64; (with_reducible refine (S1 _).mono ?_); rintro e w1 ⟨rfl, rfl⟩)
    | (go_at_call 64; (with_reducible refine (S2 _).mono ?_); rintro e w1 ⟨rfl, rfl⟩))
  clear S1 S2 CN
  go_wp2_with (at_make; refine wpList_make_full _ rfl _ _ 95 rfl w.heap.size 127 i0 (.agg #[.int .i64 0, .slice none 0 0]) 2 Tryz.underlying95 hi hz0 hz1 .i64 .i64 (m : Int) (m : Int) m rfl rfl rfl rfl (by rw [hz2]; omega) (by unfold maxLen; omega) (by have := b0.size; omega) ?_; intro w2 hown hgrow)
  have B2 : Below w.heap.size w w2 := b0.grown hgrow b0.size (fun j hj => by cases hj)
  have hlt := (World.ownsRow.lt hown w0.heap.size rfl).2
  have F0 := hide (Fill.start (g := w2.heap.size) (hown.alloc (.cells #[.int .i64 n, .slice (some ⟨w0.heap.size, 0, none⟩) m m, .int .i64 0, .int .i64 0] 97)) (Nat.ne_of_lt hlt))
  have BA := hide (ba B2 (.cells #[.int .i64 n, .slice (some ⟨w0.heap.size, 0, none⟩) m m, .int .i64 0, .int .i64 0] 97))
  have hgB : w.heap.size ≤ w2.heap.size := B2.size
  have hhB : w.heap.size ≤ w0.heap.size := b0.size
  clear hown hgrow b0 B2 hk
  obtain ⟨h, hh⟩ : ∃ h, w0.heap.size = h := ⟨_, rfl⟩
  rw [hh] at F0 BA hhB hlt
  obtain ⟨g, hg⟩ : ∃ g, w2.heap.size = g := ⟨_, rfl⟩
  have HG := hide hg
  rw [hg] at F0 hgB hlt
  have hne : h ≠ g := Nat.ne_of_lt hlt
  have hne2 : g ≠ h := fun e => hne e.symm
  simp only [hh]
  simp only [hg]
  clear hh
  go_loopw [37] (fun i wr => ∃ k : Nat, k ≤ m ∧ i = .int .i64 (k : Int) ∧ Hid (firstCode f n m k = 0) ∧ Hid (Fill wr g h m (linesTo f n m k)) ∧ wr.cell? ⟨g, 0, none⟩ = some (.int .i64 n) ∧ wr.cell? ⟨g, 1, none⟩ = some (.slice (some ⟨h, 0, none⟩) m m) ∧ wr.cell? ⟨g, 2, none⟩ = some (.int .i64 (mostF (linesTo f n m k))) ∧ wr.cell? ⟨g, 3, none⟩ = some (.int .i64 (sizeF (linesTo f n m k))) ∧ wr.frozen? ⟨g, 2, none⟩ = false ∧ wr.frozen? ⟨g, 3, none⟩ = false ∧ Below w.heap.size w wr) (fun i _ => m - (intOf i).toNat)
  case atStart =>
    subst hg
    exact ⟨0, by omega, rfl, rfl, F0, by simp, by simp, by simp; rfl, by simp; rfl, by simp, by simp, BA.out⟩
  case round =>
    obtain ⟨k, hkm, rfl, hf, HF, c0, c1, c2, c3, z2, z3, hb⟩ := hrel
    have HB := hide hb
    have gl := cell_ltL c0
    clear hb F0 BA HG hg hlt
    have hll := linesTo_len f n m k
    by_cases hkl : k < m
    · have hM : MayP f n m k := ⟨f0, f1, n0, n1, by omega, by omega, by omega, by omega⟩
      have CR := prow_line f n m k hM
      obtain ⟨s0, s1, b0, b1⟩ := row_ends hM
      clear hM
      have hx := rowI_64 f n m k
      have hln := rowI_len f n m k
      have hc1 : firstCode f n m (k + 1) = appCode (rowI f n m k) := if_pos hf.out
      have hsn := linesTo_snoc f n m k
      have hlr : lineR f n m k = (startR f n m k, appR (rowI f n m k)) := rfl
      rw [hlr] at hsn
      have HM1 := hide ((congrArg mostF hsn).trans (most_snoc _ _))
      have HS1 := hide ((congrArg sizeF hsn).trans (size_snoc _ _))
      have HSN := hide hsn
      clear hlr hsn
      obtain ⟨st, cn, xs, cd, e1, e2, e3, e4⟩ := line_more f n m k
      rw [e1, e3] at CR HSN HM1 HS1
      rw [e1] at s0 s1
      rw [e2] at b0 b1 hln
      rw [e3] at hx hln hc1
      rw [e4] at hc1
      have CA : ∀ (ad : Option Addr) (cap : Nat) (w : World), RowAt .i64 w ad xs → Calls Tryz.prog 117 #[.slice ad cn cap] w fun e w' => ∃ v, e = .returned (.tuple #[v, .int .i64 cd]) ∧ (cd = 0 → OwnI .i64 2 w' w.heap.size v (appR xs)) ∧ Below w.heap.size w w' := by
        intro ad cap w hr
        have := papp_own_n cn xs hln ad cap w hr hx (by omega)
        rw [e4] at this
        exact this
      have hal : (appR xs).length = cn := by rw [appR_length]; exact hln
      have HLN := hide hln
      have HAL := hide hal
      have HC1 := hide hc1
      have HLL := hide hll
      by_cases hz : cd = 0
      · have hfit : Fits xs := appCode_fits.1 (e4.trans hz)
        have HX := hide (appR_64 hfit)
        subst hz
        obtain ⟨ts, hts⟩ : ∃ ts, appR xs = ts := ⟨_, rfl⟩
        rw [hts] at CA HX HAL HSN HM1 HS1
        obtain ⟨so, hso⟩ : ∃ so, sizeF (linesTo f n m k) = so := ⟨_, rfl⟩
        obtain ⟨mo, hmo⟩ : ∃ mo, mostF (linesTo f n m k) = mo := ⟨_, rfl⟩
        rw [hso] at HS1 c3
        rw [hmo] at HM1 c2
        obtain ⟨sz, hsz⟩ : ∃ sz, sizeH ts = sz := ⟨_, rfl⟩
        have HS2 := hide (show sizeF (linesTo f n m (k + 1)) = max so sz by rw [← hsz]; exact HS1.out)
        have HM2 := hide (show mostF (linesTo f n m (k + 1)) = max mo (cn : Int) by rw [← HAL.out]; exact HM1.out)
        have CS := fun w ad cap hr => tsize_n cn ts HAL.out ad cap w hr HX.out (by omega)
        rw [hsz] at CS
        clear e1 e2 e3 e4 hx hln hc1 hal hts hso hmo hsz hfit HX HS1 HM1 hll
        go_upto_region 13 with (first
          | (go_at_call 116; (with_reducible refine (CR _ (HK.out _ HB.out)).mono ?_); rintro e w2 ⟨v, rfl, ho1, b2⟩; obtain ⟨ad, cap, rfl, hrow, _⟩ := ho1.formn HLN.out)
          | (go_at_call 117; (with_reducible refine (CA _ _ _ hrow).mono ?_); rintro e w3 ⟨v2, rfl, ho2, b3⟩; obtain ⟨b, cap2, rfl, hbb, hrt⟩ := own_some (ho2 (by trivial)) HAL.out b0; clear ho2; have b23 := bt b2 b3; have F3 := HF.out.below b23; obtain ⟨⟨v0, r0⟩, y0, ⟨v1, r1⟩, y1⟩ := F3.room hkl; have d0 := cb b23 gl c0; have d1 := cb b23 gl c1; have d2 := cb b23 gl c2; have d3 := cb b23 gl c3; have x2 := fb b23 gl z2; have x3 := fb b23 gl z3))
        have hl2 := cell_ltL (HF.out.room hkl).1.choose_spec
        have s2 := b2.size
        obtain ⟨F4, R4, p0, p1, p2, p3, w2', w3'⟩ := fill_step (cap := cap2) F3 HLL.out hkl st ts HAL.out (show b ≠ g by omega) (show b ≠ h by omega) hrt d0 d1 d2 d3 x2 x3 (.int .i64 (max mo (cn : Int))) rfl
        have B4 := bs (bs (bs (bt HB.out b23) hhB (b := h) (o := k * 2) (.int .i64 st)) hhB (b := h) (o := k * 2 + 1) (.slice (some ⟨b, 0, none⟩) cn cap2)) hgB (b := g) (o := 2) (.int .i64 (max mo (cn : Int)))
        have HF4 := hide F4
        have HR4 := hide R4
        have HB4 := hide B4
        clear F4 R4 B4 F3 b23 b2 b3 hrt d0 d1 d2 d3 x2 x3 c0 c1 c2 c3 z2 z3 r0 y0 r1 y1 hbb ho1 hrow CA CR HF HB
        generalize ((w3.setCell ⟨h, k * 2, none⟩ (.int .i64 st)).setCell ⟨h, k * 2 + 1, none⟩ (.slice (some ⟨b, 0, none⟩) cn cap2)).setCell ⟨g, 2, none⟩ (.int .i64 (max mo (cn : Int))) = W at *
        obtain ⟨F5, q0, q1, q2, q3, o2, o3⟩ := fill_last (W := W.drew.setCell ⟨g, 3, none⟩ (.int .i64 (max so sz))) HF4.out p0 p1 p2 p3 w2' w3' (.int .i64 (max so sz)) rfl
        have B5 : Below w.heap.size w (W.drew.setCell ⟨g, 3, none⟩ (.int .i64 (max so sz))) := bs (bd HB4.out) hgB (b := g) (o := 3) _
        rw [← HSN.out] at F5
        have H5 := hide (And.intro F5 (And.intro q0 (And.intro q1 (And.intro q2 (And.intro q3 (And.intro o2 (And.intro o3 B5)))))))
        clear F5 B5 q0 q1 q2 q3 o2 o3
        go_region_with (go_at_call 95; (with_reducible refine (CS _ _ _ (HR4.out.below (by first | exact Below.refl _ _ | exact bd (Below.refl _ _)))).mono ?_); rintro e w4 ⟨rfl, rfl⟩)
        all_goals
          go_wp2
          go_roundw
          case rel =>
            obtain ⟨F5, q0, q1, q2, q3, o2, o3, B5⟩ := H5.out
            exact ⟨k + 1, by omega, by go_num, HC1, F5, q0, q1, (by rw [HM2.out]; exact q2), (by rw [HS2.out]; exact q3), o2, o3, B5⟩
          case measure => simp [intOf]; omega
      · have hend : firstCode f n m m = cd := (firstCode_stays (by rw [hc1]; exact hz) (show k + 1 ≤ m by omega)).trans hc1
        have hcc : cm = cd := HCD.out.symm.trans hend
        subst hcc
        have hzb : (cm != 0) = true := by simpa using hz
        have HZ := hide hz
        clear e1 e2 e3 e4 hx hln hc1 hal hend hz HC1 HSN HS1 HM1 hll
        go_wp2_with (first
          | (go_at_call 116; (with_reducible refine (CR _ (HK.out _ HB.out)).mono ?_); rintro e w2 ⟨v, rfl, ho1, b2⟩; obtain ⟨ad, cap, rfl, hrow, _⟩ := ho1.formn HLN.out)
          | (go_at_call 117; (with_reducible refine (CA _ _ _ hrow).mono ?_); rintro e w3 ⟨v2, rfl, ho2, b3⟩))
        exact bodyPost_ret (v := .tuple #[.pointer none, .int .i64 cm]) (by simp [results, Tryz.results98, go_sem]) rfl (by
          have B9 := bt (bt HB.out b2) b3
          first | exact ⟨.pointer none, rfl, (fun g => absurd g HZ.out), (fun _ => rfl), B9⟩ | exact ⟨.pointer none, rfl, (fun g => absurd g HZ.out), trivial, B9⟩)
    · obtain rfl : k = m := by omega
      have hcc : cm = 0 := HCD.out.symm.trans hf.out
      subst hcc
      have hT := hide (show TabM wr (.pointer (some ⟨g, 0, none⟩)) n (linesTo f n k k) from ⟨g, h, k, rfl, c0, by rw [hll]; exact c1, c2, c3, HF.out.heads⟩)
      clear HCD hf hkl hkm HF c0 c1 c2 c3
      go_wp2
      exact bodyPost_ret (v := .tuple #[.pointer (some ⟨g, 0, none⟩), .int .i64 0]) (by simp [results, Tryz.results98, go_sem]) rfl (by first | exact ⟨_, rfl, hT.out, HB.out⟩ | exact ⟨_, rfl, (fun _ => hT.out), (fun g => absurd rfl g), HB.out⟩)
theorem resize_none (f n m : Int) (h : resB f n m = false) (hf : I64 f) (w : World) (hk : Kinds w) :
    Calls Tryz.prog 98 #[.int .i64 f, .int .i64 n, .int .i64 m] w fun e w' => e = .returned (.tuple #[.pointer none, .int .i64 6]) ∧ Below w.heap.size w w' := by
  have hb := fun g => Bool.false_ne_true (h.symm.trans ((resB_iff f n m).2 g))
  clear h
  have CN := fun w hk => name_any f hf w hk
  by_cases hfr : 0 ≤ f ∧ f ≤ 2
  · obtain ⟨s, hs, s0⟩ := name_some f hfr.1 hfr.2
    rw [hs] at CN
    clear hs
    by_cases hn : 1 ≤ n ∧ n ≤ 65536
    · have S1 := tside_yes n hn.1 hn.2
      have S2 := tside_no m (by
        by_cases q : m < 1
        · exact Or.inl q
        · refine Or.inr ?_
          by_cases q2 : 65536 < m
          · exact q2
          · exact absurd ⟨hfr.1, hfr.2, hn, by omega, by omega⟩ hb)
      clear hb hn hfr
      go_enter Tryz.func98, Tryz.ntmps98
      go_wp2_with (first
        | (go_at_call 97; (with_reducible refine (CN _ hk).mono ?_); rintro e w0 ⟨rfl, b0⟩)
        | (go_at_call 64; (with_reducible refine (S1 _).mono ?_); rintro e w1 ⟨rfl, rfl⟩)
        | (go_at_call 64; (with_reducible refine (S2 _).mono ?_); rintro e w1 ⟨rfl, rfl⟩))
      exact bodyPost_ret (v := .tuple #[.pointer none, .int .i64 6]) (by simp [results, Tryz.results98, go_sem]) rfl ⟨rfl, b0⟩
    · have S1 := tside_no n (by omega)
      clear hb hn hfr
      go_enter Tryz.func98, Tryz.ntmps98
      go_wp2_with (first
        | (go_at_call 97; (with_reducible refine (CN _ hk).mono ?_); rintro e w0 ⟨rfl, b0⟩)
        | (go_at_call 64; (with_reducible refine (S1 _).mono ?_); rintro e w1 ⟨rfl, rfl⟩))
      exact bodyPost_ret (v := .tuple #[.pointer none, .int .i64 6]) (by simp [results, Tryz.results98, go_sem]) rfl ⟨rfl, b0⟩
  · rw [show nameF f = .string ⟨#[]⟩ by unfold nameF; rw [if_neg (by omega), if_neg (by omega), if_neg (by omega)]] at CN
    clear hb hfr
    go_enter Tryz.func98, Tryz.ntmps98
    go_wp2_with (go_at_call 97; (with_reducible refine (CN _ hk).mono ?_); rintro e w0 ⟨rfl, b0⟩)
    exact bodyPost_ret (v := .tuple #[.pointer none, .int .i64 6]) (by simp [results, Tryz.results98, go_sem]) rfl ⟨rfl, b0⟩
theorem resize_c : ResizeC Kinds Tab := by
  intro f n m f0 f1 n0 n1 m0 m1 w hk
  cases hB : resB f n m with
  | false =>
    have e : resCode f n m = 6 := by unfold resCode; rw [hB]; rfl
    rw [e]
    refine (resize_none f n m hB ⟨f0, f1⟩ w hk).mono ?_
    rintro e w1 ⟨rfl, b⟩
    exact ⟨_, rfl, (fun g => absurd g (by decide)), (fun _ => rfl), b⟩
  | true =>
    obtain ⟨a0, a1, ⟨b0, b1⟩, c0, c1⟩ := (resB_iff f n m).1 hB
    obtain ⟨k, rfl⟩ : ∃ k : Nat, m = (k : Int) := ⟨m.toNat, by omega⟩
    have e : resCode f n k = firstCode f n k k := by unfold resCode; rw [hB, if_pos rfl, Int.toNat_natCast]
    have HE := hide e
    rw [Int.toNat_natCast]
    refine (resize_walk f n k a0 a1 b0 b1 (by omega) (by omega) w hk).mono ?_
    rintro e w1 ⟨v, rfl, hT, hN, b⟩
    rw [HE.out]
    refine ⟨v, rfl, fun g => (hT g).tab (lines_ok (HE.out.trans g) hB) (moves_lines a0 a1 b0 b1 (by omega)) (by rw [linesTo_len]; omega) (by rw [linesTo_len]; omega) b0 b1, hN, b⟩
end Go.Proofs.YtaafhjngnjjcmaaGreatDoor

/- Tables: the law on a side that stays as it is, out of what the program's calls answer. -/
namespace Go.Proofs.YtaafhjngnjjcmaaGreatDoor
open Go.RowKit


def SameC (T : World → Value → Int → List (Int × List Int) → Prop) : Prop := ∀ (n : Nat) (w : World), 1 ≤ n → n ≤ 65536 →
  Calls Tryz.prog 31 #[.int .i64 (n : Int)] w fun e w' => ∃ v, e = .returned v ∧ T w' v n (sameTo n) ∧ Below w.heap.size w w'
end Go.Proofs.YtaafhjngnjjcmaaGreatDoor
