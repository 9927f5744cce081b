/- Three cells of a block. No number of the program stands in it. -/
import Derived.Test.YtfecalpfjafecaaLG
namespace Go.Proofs.Ytfecalpfjafecaa
open Go.RowKit


/-- Three cells of a block. -/
def Cel3 (w : World) (b : Nat) (x y z : Value) : Prop := w.cell? ⟨b, 0, none⟩ = some x ∧ w.cell? ⟨b, 1, none⟩ = some y ∧ w.cell? ⟨b, 2, none⟩ = some z ∧ w.frozen? ⟨b, 0, none⟩ = false ∧ w.frozen? ⟨b, 1, none⟩ = false ∧ w.frozen? ⟨b, 2, none⟩ = false
theorem Cel3.below {w w' : World} {b : Nat} {x y z : Value} (h : Cel3 w b x y z) (hb : Below w.heap.size w w') : Cel3 w' b x y z := by
  obtain ⟨a0, a1, a2, a3, a4, a5⟩ := h
  have hl := cell_ltL a0
  exact ⟨cb hb hl a0, cb hb hl a1, cb hb hl a2, fb hb hl a3, fb hb hl a4, fb hb hl a5⟩
theorem Cel3.grown {w w' : World} {b : Nat} {x y z : Value} {row : Option Nat} (h : Cel3 w b x y z) (hg : w.grownBy w' row) (hn : some b ≠ row) : Cel3 w' b x y z := by
  obtain ⟨a0, a1, a2, a3, a4, a5⟩ := h
  exact ⟨cg hg hn a0, cg hg hn a1, cg hg hn a2, fg hg hn a0 a3, fg hg hn a1 a4, fg hg hn a2 a5⟩
theorem Cel3.alloc {w : World} {b : Nat} {x y z : Value} (h : Cel3 w b x y z) (o : Obj) : Cel3 (w.alloc o) b x y z := h.grown (World.grownBy_alloc w o none) (by simp)
theorem cel_two {w W : World} {x y z p q s : Value} {T T' : TypeId} (b : Below ((w.alloc (.cells #[x, y, z] T)).alloc (.cells #[p, q, s] T')).heap.size ((w.alloc (.cells #[x, y, z] T)).alloc (.cells #[p, q, s] T')) W) : Cel3 W w.heap.size x y z ∧ Cel3 W (w.heap.size + 1) p q s := by
  have hs : (w.alloc (.cells #[x, y, z] T)).heap.size = w.heap.size + 1 := by simp
  have a1 : Cel3 (w.alloc (.cells #[x, y, z] T)) w.heap.size x y z := by refine ⟨?_, ?_, ?_, ?_, ?_, ?_⟩ <;> simp
  have a2 : Cel3 ((w.alloc (.cells #[x, y, z] T)).alloc (.cells #[p, q, s] T')) (w.alloc (.cells #[x, y, z] T)).heap.size p q s := by refine ⟨?_, ?_, ?_, ?_, ?_, ?_⟩ <;> simp
  rw [hs] at a2
  exact ⟨(a1.alloc _).below b, a2.below b⟩
/-- Cells b of the record, of which the rows are others. -/
theorem Cel3.set2 {w : World} {b : Nat} {x y z : Value} (h : Cel3 w b x y z) (u : Value) : Cel3 (w.setCell ⟨b, 2, none⟩ u) b x y u := by
  obtain ⟨a0, a1, a2, a3, a4, a5⟩ := h
  refine ⟨?_, ?_, ?_, ?_, ?_, ?_⟩
  · rw [World.cell?_setCell_other _ _ _ _ (by simp)]; exact a0
  · rw [World.cell?_setCell_other _ _ _ _ (by simp)]; exact a1
  · exact World.cell?_setCell_same' _ _ _ (by rw [a2]; rfl)
  · rw [World.frozen?_setCell]; exact a3
  · rw [World.frozen?_setCell]; exact a4
  · rw [World.frozen?_setCell]; exact a5
theorem Cel3.set3 {w : World} {b : Nat} {x y z : Value} (h : Cel3 w b x y z) (p q u : Value) : Cel3 (((w.setCell ⟨b, 0, none⟩ p).setCell ⟨b, 1, none⟩ q).setCell ⟨b, 2, none⟩ u) b p q u := by
  obtain ⟨a0, a1, a2, a3, a4, a5⟩ := h
  refine ⟨?_, ?_, ?_, ?_, ?_, ?_⟩
  · rw [World.cell?_setCell_other _ _ _ _ (by simp), World.cell?_setCell_other _ _ _ _ (by simp)]
    exact World.cell?_setCell_same' _ _ _ (by rw [a0]; rfl)
  · rw [World.cell?_setCell_other _ _ _ _ (by simp)]
    exact World.cell?_setCell_same' _ _ _ (by rw [World.cell?_setCell_other _ _ _ _ (by simp), a1]; rfl)
  · exact World.cell?_setCell_same' _ _ _ (by rw [World.cell?_setCell_other _ _ _ _ (by simp), World.cell?_setCell_other _ _ _ _ (by simp), a2]; rfl)
  · rw [World.frozen?_setCell, World.frozen?_setCell, World.frozen?_setCell]; exact a3
  · rw [World.frozen?_setCell, World.frozen?_setCell, World.frozen?_setCell]; exact a4
  · rw [World.frozen?_setCell, World.frozen?_setCell, World.frozen?_setCell]; exact a5
end Go.Proofs.Ytfecalpfjafecaa
