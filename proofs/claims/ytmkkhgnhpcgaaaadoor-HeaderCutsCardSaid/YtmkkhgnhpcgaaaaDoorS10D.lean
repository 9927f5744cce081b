/- The document's heads: a whole head. -/
import Derived.Test.YtmkkhgnhpcgaaaaDoorLT
import Derived.Test.YtmkkhgnhpcgaaaaDoorS10B
import Derived.Test.YtmkkhgnhpcgaaaaDoorS09C
import Derived.Deep.RegionHeld3
import Derived.BigQuiet
namespace Go.Proofs.YtmkkhgnhpcgaaaaDoor
open Go.RowKit


/-- What comes out when so many numbers are still to come. -/
def stK (len c : Int) : Nat → (Nat → Int) → List Int → Hd × Int
  | 0, v, r => tailF len c (v 0) (v 1) (v 2) r
  | k + 1, v, r => if (numF r).1 ≠ 0 then (hd0, (numF r).1) else stK len c k (fun i => if i = 2 - k then (numF r).2.1 else v i) (numF r).2.2
theorem stK_body (len c : Int) (v : Nat → Int) (l : List Int) : stK len c 3 v l = bodyF len c l := by
  unfold stK stK stK stK bodyF
  simp
def hdV (h : Hd) : Value := .agg #[.int .i64 h.hc, .int .i64 h.hw, .int .i64 h.hh, .int .i64 h.ht, .int .i64 h.hs]
/-- The array's cells. -/
def Arr3 (w : World) (B : Nat) (v : Nat → Int) : Prop := ∀ i, i < 3 → w.cell? ⟨B, i, none⟩ = some (.int .i64 (v i)) ∧ w.frozen? ⟨B, i, none⟩ = false
theorem Arr3.put {w : World} {B : Nat} {v : Nat → Int} (h : Arr3 w B v) {j : Nat} (hj : j < 3) (x : Int) : Arr3 (w.setCell ⟨B, j, none⟩ (.int .i64 x)) B (fun i => if i = j then x else v i) := by
  intro i hi
  rw [World.frozen?_setCell]
  refine ⟨?_, (h i hi).2⟩
  by_cases e : i = j
  · subst e
    rw [World.cell?_setCell_same' _ _ _ (by rw [(h i hi).1]; rfl)]
    simp
  · rw [World.cell?_setCell_other _ _ _ _ (by intro e'; simp only [Addr.mk.injEq, and_true] at e'; omega), (h i hi).1]
    simp [e]
/-- The result's own cells. -/
def Zero5 (w : World) (B : Nat) : Prop :=
  (w.cell? ⟨B, 0, none⟩ = some (.int .i64 0) ∧ w.cell? ⟨B, 1, none⟩ = some (.int .i64 0) ∧ w.cell? ⟨B, 2, none⟩ = some (.int .i64 0) ∧ w.cell? ⟨B, 3, none⟩ = some (.int .i64 0) ∧ w.cell? ⟨B, 4, none⟩ = some (.int .i64 0)) ∧
  (w.frozen? ⟨B, 0, none⟩ = false ∧ w.frozen? ⟨B, 1, none⟩ = false ∧ w.frozen? ⟨B, 2, none⟩ = false ∧ w.frozen? ⟨B, 3, none⟩ = false ∧ w.frozen? ⟨B, 4, none⟩ = false)
theorem Zero5.grown {w w' : World} {B : Nat} {row : Option Nat} (h : Zero5 w B) (hg : w.grownBy w' row) (hne : some B ≠ row) : Zero5 w' B := by
  obtain ⟨⟨c0, c1, c2, c3, c4⟩, ⟨z0, z1, z2, z3, z4⟩⟩ := h
  exact ⟨⟨cg hg hne c0, cg hg hne c1, cg hg hne c2, cg hg hne c3, cg hg hne c4⟩, ⟨fg hg hne c0 z0, fg hg hne c1 z1, fg hg hne c2 z2, fg hg hne c3 z3, fg hg hne c4 z4⟩⟩
theorem digits_bound : ∀ (l : List Int) (n : Int), 0 ≤ n → n ≤ 1000000000 → 0 ≤ (digitsF n l).1 ∧ (digitsF n l).1 ≤ 1000000000
  | [], n, a, b => ⟨a, b⟩
  | x :: t, n, a, b => by
    show 0 ≤ (if digitF x = true then digitsF (min (10 * n + (x - 48)) 1000000000) t else (n, x :: t)).1 ∧ (if digitF x = true then digitsF (min (10 * n + (x - 48)) 1000000000) t else (n, x :: t)).1 ≤ 1000000000
    split
    · rename_i h
      have := digitF_iff.1 h
      exact digits_bound t _ (by omega) (by omega)
    · exact ⟨a, b⟩
end Go.Proofs.YtmkkhgnhpcgaaaaDoor
