/- Rows that slide: what a ring holds, as a rising list of rows. Plain; no number of the program stands in it. -/
import Derived.Test.YtkkoemcciemloaaM
namespace Go.Proofs.Ytkkoemcciemloaa


/-- A row further in, in order. -/
def insR (x : Int × List Int) : List (Int × List Int) → List (Int × List Int)
  | [] => [x]
  | y :: r => if x.1 < y.1 then x :: y :: r else y :: insR x r
def RisingR (L : List (Int × List Int)) : Prop := L.Pairwise (fun a b => a.1 < b.1)
def hasJ (L : List (Int × List Int)) (j : Int) : Bool := L.any (fun y => decide (y.1 = j))
def rowJ (L : List (Int × List Int)) (j : Int) : List Int := match L.find? (fun y => decide (y.1 = j)) with | some y => y.2 | none => []
def firstJ (L : List (Int × List Int)) : Int := match L with | [] => 0 | y :: _ => y.1
/-- Is it taken? -/
def putB (room width : Nat) (L : List (Int × List Int)) (j : Int) (n : Nat) : Bool := decide (n = width) && !hasJ L j && !(decide (L.length = room) && decide (j < firstJ L))
/-- What is held behind it. -/
def putR (room : Nat) (L : List (Int × List Int)) (x : Int × List Int) : List (Int × List Int) := insR x (if L.length = room then L.tail else L)
/-- The least row from so far on that isn't held, or the end. -/
def nextJ (L : List (Int × List Int)) (a b : Int) : Int := L.foldl (fun j y => if y.1 = j ∧ j < b then j + 1 else j) a
def roomF (n : Int) : Int := if n < 1 then 1 else if 65536 < n then 65536 else n
def widthF (n : Int) : Int := if n < 0 then 0 else if 262144 < n then 262144 else n
theorem insR_length (x : Int × List Int) (L : List (Int × List Int)) : (insR x L).length = L.length + 1 := by
  induction L with
  | nil => rfl
  | cons y r ih =>
    unfold insR
    split
    · rfl
    · simp [ih]
theorem insR_mem (x : Int × List Int) (L : List (Int × List Int)) (z : Int × List Int) : z ∈ insR x L ↔ z = x ∨ z ∈ L := by
  induction L with
  | nil => simp [insR]
  | cons y r ih =>
    unfold insR
    split
    · simp
    · rw [List.mem_cons, ih, List.mem_cons]
      constructor
      · rintro (h | h | h)
        · exact .inr (.inl h)
        · exact .inl h
        · exact .inr (.inr h)
      · rintro (h | h | h)
        · exact .inr (.inl h)
        · exact .inl h
        · exact .inr (.inr h)
theorem hasJ_iff (L : List (Int × List Int)) (j : Int) : hasJ L j = true ↔ ∃ y ∈ L, y.1 = j := by
  unfold hasJ
  rw [List.any_eq_true]
  simp only [decide_eq_true_eq]
theorem insR_rising {x : Int × List Int} {L : List (Int × List Int)} (h : RisingR L) (hx : hasJ L x.1 = false) : RisingR (insR x L) := by
  induction L with
  | nil => exact List.pairwise_singleton _ _
  | cons y r ih =>
    obtain ⟨h1, h2⟩ := List.pairwise_cons.1 h
    have hy : y.1 ≠ x.1 := fun e => by
      have : hasJ (y :: r) x.1 = true := (hasJ_iff _ _).2 ⟨y, List.mem_cons_self .., e⟩
      rw [hx] at this
      cases this
    have hr : hasJ r x.1 = false := by
      cases hb : hasJ r x.1
      · rfl
      · obtain ⟨z, hz, e⟩ := (hasJ_iff _ _).1 hb
        have : hasJ (y :: r) x.1 = true := (hasJ_iff _ _).2 ⟨z, List.mem_cons_of_mem _ hz, e⟩
        rw [hx] at this
        cases this
    unfold insR
    split
    · rename_i hlt
      refine List.pairwise_cons.2 ⟨fun z hz => ?_, h⟩
      rcases List.mem_cons.1 hz with rfl | hz
      · exact hlt
      · have := h1 z hz
        omega
    · rename_i hlt
      refine List.pairwise_cons.2 ⟨fun z hz => ?_, ih h2 hr⟩
      rcases (insR_mem x r z).1 hz with rfl | hz
      · omega
      · exact h1 z hz
/-- Above all that are held it goes to the end. -/
theorem insR_end {x : Int × List Int} {L : List (Int × List Int)} (h : ∀ y ∈ L, y.1 < x.1) : insR x L = L ++ [x] := by
  induction L with
  | nil => rfl
  | cons y r ih =>
    unfold insR
    rw [if_neg (by have := h y (List.mem_cons_self ..); omega), ih (fun z hz => h z (List.mem_cons_of_mem _ hz))]
    rfl
/-- Rows one behind the other: the last so many. -/
def slideR (f : Int → List Int) (a : Int) (room n : Nat) : List (Int × List Int) := ((List.range n).drop (n - room)).map (fun i : Nat => (a + (i : Int), f (a + (i : Int))))
theorem slideR_length (f : Int → List Int) (a : Int) (room n : Nat) : (slideR f a room n).length = min room n := by
  unfold slideR
  rw [List.length_map, List.length_drop, List.length_range]
  omega
theorem slideR_mem {f : Int → List Int} {a : Int} {room n : Nat} {y : Int × List Int} : y ∈ slideR f a room n ↔ ∃ i, n - room ≤ i ∧ i < n ∧ y = (a + (i : Int), f (a + (i : Int))) := by
  unfold slideR
  rw [List.mem_map]
  constructor
  · rintro ⟨i, hi, rfl⟩
    obtain ⟨k, hk, e⟩ := List.mem_iff_getElem.1 hi
    rw [List.getElem_drop, List.getElem_range] at e
    rw [List.length_drop, List.length_range] at hk
    exact ⟨i, by omega, by omega, rfl⟩
  · rintro ⟨i, h1, h2, rfl⟩
    refine ⟨i, List.mem_iff_getElem.2 ⟨i - (n - room), by rw [List.length_drop, List.length_range]; omega, ?_⟩, rfl⟩
    rw [List.getElem_drop, List.getElem_range]
    omega
theorem slideR_step {f : Int → List Int} {a : Int} {room n : Nat} (h1 : 1 ≤ room) : putR room (slideR f a room n) (a + (n : Int), f (a + (n : Int))) = slideR f a room (n + 1) := by
  unfold putR
  rw [slideR_length]
  have below : ∀ L : List (Int × List Int), (∀ y ∈ L, y ∈ slideR f a room n) → ∀ y ∈ L, y.1 < (a + (n : Int), f (a + (n : Int))).1 := fun L hL y hy => by
    obtain ⟨i, _, h2, rfl⟩ := slideR_mem.1 (hL y hy)
    show a + (i : Int) < a + (n : Int)
    omega
  by_cases hr : room ≤ n
  · rw [if_pos (by omega), insR_end (below _ (fun y hy => List.mem_of_mem_tail hy))]
    unfold slideR
    rw [List.range_succ, ← List.map_tail, List.tail_drop, List.drop_append_of_le_length (by rw [List.length_range]; omega), List.map_append, show n - room + 1 = n + 1 - room by omega]
    rfl
  · rw [if_neg (by omega), insR_end (below _ (fun y hy => hy))]
    unfold slideR
    rw [List.range_succ, show n - room = 0 by omega, show n + 1 - room = 0 by omega, List.drop_zero, List.drop_zero, List.map_append]
    rfl
/-! ### The least row that isn't held -/
theorem next_cons (y : Int × List Int) (r : List (Int × List Int)) (a b : Int) : nextJ (y :: r) a b = nextJ r (if y.1 = a ∧ a < b then a + 1 else a) b := rfl
theorem next_above {L : List (Int × List Int)} {a b : Int} (h : ∀ z ∈ L, a < z.1) : nextJ L a b = a := by
  induction L with
  | nil => rfl
  | cons y r ih =>
    rw [next_cons, if_neg (by have := h y (List.mem_cons_self ..); omega)]
    exact ih (fun z hz => h z (List.mem_cons_of_mem _ hz))
theorem next_facts {L : List (Int × List Int)} (hR : RisingR L) (a b : Int) : a ≤ nextJ L a b ∧ (a ≤ b → nextJ L a b ≤ b) ∧ (∀ j, a ≤ j → j < nextJ L a b → hasJ L j = true) ∧ (nextJ L a b < b → hasJ L (nextJ L a b) = false) := by
  induction L generalizing a with
  | nil => exact ⟨Int.le_refl _, fun h => h, fun j h1 h2 => absurd h2 (by show ¬ j < a; omega), fun _ => rfl⟩
  | cons y r ih =>
    obtain ⟨h1, h2⟩ := List.pairwise_cons.1 hR
    have up : ∀ j, hasJ r j = true → hasJ (y :: r) j = true := fun j h => by
      obtain ⟨z, hz, e⟩ := (hasJ_iff _ _).1 h
      exact (hasJ_iff _ _).2 ⟨z, List.mem_cons_of_mem _ hz, e⟩
    have no : ∀ j, y.1 ≠ j → hasJ r j = false → hasJ (y :: r) j = false := fun j hy h => by
      cases hb : hasJ (y :: r) j
      · rfl
      · obtain ⟨z, hz, e⟩ := (hasJ_iff _ _).1 hb
        rcases List.mem_cons.1 hz with rfl | hz
        · exact absurd e hy
        · have : hasJ r j = true := (hasJ_iff _ _).2 ⟨z, hz, e⟩
          rw [h] at this
          cases this
    rw [next_cons]
    by_cases e : y.1 = a ∧ a < b
    · rw [if_pos e]
      obtain ⟨i1, i2, i3, i4⟩ := ih h2 (a + 1)
      refine ⟨by omega, fun _ => i2 (by omega), fun j j1 j2 => ?_, fun hlt => ?_⟩
      · by_cases ej : j = a
        · exact (hasJ_iff _ _).2 ⟨y, List.mem_cons_self .., by omega⟩
        · exact up j (i3 j (by omega) j2)
      · exact no _ (by omega) (i4 hlt)
    · rw [if_neg e]
      obtain ⟨i1, i2, i3, i4⟩ := ih h2 a
      refine ⟨i1, i2, fun j j1 j2 => up j (i3 j j1 j2), fun hlt => ?_⟩
      by_cases ey : y.1 = nextJ r a b
      · exfalso
        by_cases ea : y.1 < a
        · omega
        · have : nextJ r a b = a := next_above (fun z hz => by have := h1 z hz; omega)
          omega
      · exact no _ ey (i4 hlt)
end Go.Proofs.Ytkkoemcciemloaa
