/- What a store in one block leaves alone; pieces of rows. No number of the program stands in it. -/
import Derived.Test.YtfecalpfjafecaaLA
import Derived.Deep.RegionLaw
import Derived.Laws.CopyOwn
import Derived.Maps.AppendAt
import Derived.Maps.Range
import Derived.Deep.AppendLies
namespace Go.Proofs.Ytfecalpfjafecaa
open Go.RowKit


/-- Nothing that there was is turned, but the block b. -/
theorem grown_set (w : World) (b o : Nat) (u : Value) : w.grownBy (w.setCell ⟨b, o, none⟩ u) (some b) :=
  ⟨rfl, rfl, rfl, by simp [World.setCell], fun k hk hne => Below.heap_setCell _ _ _ _ (fun e => hne (by rw [e]))⟩
theorem grown_below {w w' : World} (h : Below w.heap.size w w') (row : Option Nat) : w.grownBy w' row := ⟨h.os, h.tape, h.output, h.size, fun k hk _ => h.block k hk⟩
/-- A cell of another block. -/
theorem cg {w w' : World} {row : Option Nat} {b o : Nat} {v : Value} (hg : w.grownBy w' row) (hne : some b ≠ row) (hc : w.cell? ⟨b, o, none⟩ = some v) : w'.cell? ⟨b, o, none⟩ = some v := hg.cell hc hne
theorem fg {w w' : World} {row : Option Nat} {b o : Nat} {v : Value} (hg : w.grownBy w' row) (hne : some b ≠ row) (hc : w.cell? ⟨b, o, none⟩ = some v) (hf : w.frozen? ⟨b, o, none⟩ = false) : w'.frozen? ⟨b, o, none⟩ = false :=
  (hg.frozen_far ⟨b, o, none⟩ (cell_ltL hc) hne).trans hf
theorem RowAt.grown {k : IntKind} {w w' : World} {b off : Nat} {xs : List Int} {row : Option Nat} (h : RowAt k w (some ⟨b, off, none⟩) xs) (hg : w.grownBy w' row) (hne : some b ≠ row) : RowAt k w' (some ⟨b, off, none⟩) xs := by
  by_cases e : xs = []
  · exact Or.inl e
  · exact Or.inr ⟨b, off, rfl, fun j hj => cg hg hne (h.at hj)⟩
/-- A piece of a row. -/
theorem RowAt.part {k : IntKind} {w : World} {b off : Nat} {xs : List Int} (h : RowAt k w (some ⟨b, off, none⟩) xs) (i n : Nat) (hn : i + n ≤ xs.length) : RowAt k w (some ⟨b, off + i, none⟩) ((xs.drop i).take n) := by
  refine Or.inr ⟨b, off + i, rfl, fun j hj => ?_⟩
  have hj' : j < n := by rw [List.length_take] at hj; omega
  have := h.at (j := i + j) (by omega)
  rw [← Nat.add_assoc] at this
  rw [this, List.getD_eq_getElem?_getD, List.getD_eq_getElem?_getD, List.getElem?_take, if_pos hj', List.getElem?_drop]
/-- One number of it is written over. -/
theorem RowAt.put {k : IntKind} {w : World} {b off : Nat} {xs : List Int} (h : RowAt k w (some ⟨b, off, none⟩) xs) (j : Nat) (hj : j < xs.length) (x : Int) : RowAt k (w.setCell ⟨b, off + j, none⟩ (.int k x)) (some ⟨b, off, none⟩) (xs.set j x) := by
  refine Or.inr ⟨b, off, rfl, fun i hi => ?_⟩
  rw [List.length_set] at hi
  by_cases e : i = j
  · subst e
    rw [World.cell?_setCell_same' _ _ _ (by rw [h.at hi]; rfl), List.getD_eq_getElem?_getD, List.getElem?_set_self hi]
    rfl
  · rw [World.cell?_setCell_other _ _ _ _ (by intro e'; simp only [Addr.mk.injEq, and_true] at e'; omega), h.at hi, List.getD_eq_getElem?_getD, List.getD_eq_getElem?_getD, List.getElem?_set_ne (fun g => e g.symm)]
/-- The world but for how much of the tape is drawn. -/
def Drew (w w' : World) : Prop := ∃ m, w' = w.drewN m
theorem Drew.refl (w : World) : Drew w w := ⟨0, rfl⟩
theorem Drew.more {w w' : World} (h : Drew w w') (n : Nat) : Drew w (w'.drewN n) := by
  obtain ⟨m, rfl⟩ := h
  exact ⟨m + n, World.drewN_drewN _ _ _⟩
theorem Drew.below {w w' : World} (h : Drew w w') : Below w.heap.size w w' := by
  obtain ⟨m, rfl⟩ := h
  exact bdN (Below.refl _ _) m
theorem Drew.grown {w w' : World} (h : Drew w w') (row : Option Nat) : w.grownBy w' row := grown_below h.below row
end Go.Proofs.Ytfecalpfjafecaa
