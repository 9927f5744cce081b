/- Slices of numbers in memory: what a slice reads as, and slices that the call itself made. No number of the program stands in it. -/
import Derived.Test.YthhdclgpllnenaaDoorD
import Derived.WalkKit
import Derived.OwnWalk
import Derived.Laws.OwnMore
import Derived.ArgAppend
import Derived.Laws.AppendOwnNone
import Derived.Deep.QuietTactic
namespace Go.Proofs.YthhdclgpllnenaaDoor
open Go.RowKit


theorem cell_ltL {w : World} {b o : Nat} {v : Value} (h : w.cell? ⟨b, o, none⟩ = some v) : b < w.heap.size := by
  by_cases g : b < w.heap.size
  · exact g
  · have e : w.heap[b]? = none := Array.getElem?_eq_none (by omega)
    simp [World.cell?, e] at h
/-- The slice at an address reads as these numbers of a kind. -/
def RowAt (k : IntKind) (w : World) (ad : Option Addr) (xs : List Int) : Prop :=
  xs = [] ∨ ∃ b off, ad = some ⟨b, off, none⟩ ∧ ∀ j, j < xs.length → w.cell? ⟨b, off + j, none⟩ = some (.int k (xs.getD j 0))
theorem RowAt.get {k : IntKind} {w : World} {ad : Option Addr} {xs : List Int} (h : RowAt k w ad xs) {j : Nat} (hj : j < xs.length) :
    ∃ b off, ad = some ⟨b, off, none⟩ ∧ w.cell? ⟨b, off + j, none⟩ = some (.int k (xs.getD j 0)) := by
  rcases h with rfl | ⟨b, off, h1, h2⟩
  · exact absurd hj (Nat.not_lt_zero _)
  · exact ⟨b, off, h1, h2 j hj⟩
theorem RowAt.at {k : IntKind} {w : World} {b off : Nat} {xs : List Int} (h : RowAt k w (some ⟨b, off, none⟩) xs) {j : Nat} (hj : j < xs.length) : w.cell? ⟨b, off + j, none⟩ = some (.int k (xs.getD j 0)) := by
  obtain ⟨b', off', e, c⟩ := h.get hj
  simp only [Option.some.injEq, Addr.mk.injEq, and_true] at e
  obtain ⟨rfl, rfl⟩ := e
  exact c
theorem RowAt.nil (k : IntKind) (w : World) (ad : Option Addr) : RowAt k w ad [] := Or.inl rfl
theorem RowAt.below {k : IntKind} {w w' : World} {ad : Option Addr} {xs : List Int} (h : RowAt k w ad xs) (hb : Below w.heap.size w w') : RowAt k w' ad xs := by
  rcases h with h | ⟨b, off, h1, h2⟩
  · exact Or.inl h
  · exact Or.inr ⟨b, off, h1, fun j hj => cb hb (cell_ltL (h2 j hj)) (h2 j hj)⟩
end Go.Proofs.YthhdclgpllnenaaDoor
