/- A play: the records that it holds, kept through calls. -/
import Derived.Test.YtcamllahcjonkaaS09N
import Derived.Test.YtcamllahcjonkaaS09O
import Derived.Test.YtcamllahcjonkaaS09P
namespace Go.Proofs.Ytcamllahcjonkaa
open Go.RowKit

theorem s9_grown {w w' : World} {row : Option Nat} {A R : Nat} {x0 x1 x2 x3 y0 y1 y2 y3 y4 : Value} (h : w.cell? ⟨A, 0, none⟩ = some x0 ∧ w.cell? ⟨A, 1, none⟩ = some x1 ∧ w.cell? ⟨A, 2, none⟩ = some x2 ∧ w.cell? ⟨A, 3, none⟩ = some x3 ∧ w.cell? ⟨R, 0, none⟩ = some y0 ∧ w.cell? ⟨R, 1, none⟩ = some y1 ∧ w.cell? ⟨R, 2, none⟩ = some y2 ∧ w.cell? ⟨R, 3, none⟩ = some y3 ∧ w.cell? ⟨R, 4, none⟩ = some y4) (hg : w.grownBy w' row) (nA : some A ≠ row) (nR : some R ≠ row) :
    w'.cell? ⟨A, 0, none⟩ = some x0 ∧ w'.cell? ⟨A, 1, none⟩ = some x1 ∧ w'.cell? ⟨A, 2, none⟩ = some x2 ∧ w'.cell? ⟨A, 3, none⟩ = some x3 ∧ w'.cell? ⟨R, 0, none⟩ = some y0 ∧ w'.cell? ⟨R, 1, none⟩ = some y1 ∧ w'.cell? ⟨R, 2, none⟩ = some y2 ∧ w'.cell? ⟨R, 3, none⟩ = some y3 ∧ w'.cell? ⟨R, 4, none⟩ = some y4 := by
  obtain ⟨a0, a1, a2, a3, b0, b1, b2, b3, b4⟩ := h
  exact ⟨cg hg nA a0, cg hg nA a1, cg hg nA a2, cg hg nA a3, cg hg nR b0, cg hg nR b1, cg hg nR b2, cg hg nR b3, cg hg nR b4⟩
theorem s9_below {w w' : World} {A R : Nat} {x0 x1 x2 x3 y0 y1 y2 y3 y4 : Value} (h : w.cell? ⟨A, 0, none⟩ = some x0 ∧ w.cell? ⟨A, 1, none⟩ = some x1 ∧ w.cell? ⟨A, 2, none⟩ = some x2 ∧ w.cell? ⟨A, 3, none⟩ = some x3 ∧ w.cell? ⟨R, 0, none⟩ = some y0 ∧ w.cell? ⟨R, 1, none⟩ = some y1 ∧ w.cell? ⟨R, 2, none⟩ = some y2 ∧ w.cell? ⟨R, 3, none⟩ = some y3 ∧ w.cell? ⟨R, 4, none⟩ = some y4) (hb : Below w.heap.size w w') :
    w'.cell? ⟨A, 0, none⟩ = some x0 ∧ w'.cell? ⟨A, 1, none⟩ = some x1 ∧ w'.cell? ⟨A, 2, none⟩ = some x2 ∧ w'.cell? ⟨A, 3, none⟩ = some x3 ∧ w'.cell? ⟨R, 0, none⟩ = some y0 ∧ w'.cell? ⟨R, 1, none⟩ = some y1 ∧ w'.cell? ⟨R, 2, none⟩ = some y2 ∧ w'.cell? ⟨R, 3, none⟩ = some y3 ∧ w'.cell? ⟨R, 4, none⟩ = some y4 := by
  obtain ⟨a0, a1, a2, a3, b0, b1, b2, b3, b4⟩ := h
  have lA := cell_ltL a0
  have lR := cell_ltL b0
  exact ⟨cb hb lA a0, cb hb lA a1, cb hb lA a2, cb hb lA a3, cb hb lR b0, cb hb lR b1, cb hb lR b2, cb hb lR b3, cb hb lR b4⟩
theorem s5_below {w w' : World} {R : Nat} {y0 y1 y2 y3 y4 : Value} (h : w.cell? ⟨R, 0, none⟩ = some y0 ∧ w.cell? ⟨R, 1, none⟩ = some y1 ∧ w.cell? ⟨R, 2, none⟩ = some y2 ∧ w.cell? ⟨R, 3, none⟩ = some y3 ∧ w.cell? ⟨R, 4, none⟩ = some y4) (hb : Below w.heap.size w w') :
    w'.cell? ⟨R, 0, none⟩ = some y0 ∧ w'.cell? ⟨R, 1, none⟩ = some y1 ∧ w'.cell? ⟨R, 2, none⟩ = some y2 ∧ w'.cell? ⟨R, 3, none⟩ = some y3 ∧ w'.cell? ⟨R, 4, none⟩ = some y4 := by
  obtain ⟨b0, b1, b2, b3, b4⟩ := h
  have lR := cell_ltL b0
  exact ⟨cb hb lR b0, cb hb lR b1, cb hb lR b2, cb hb lR b3, cb hb lR b4⟩
/-- The record R holds the document's image, whose samples lie in b. -/
def RCell (w : World) (R b cap : Nat) (I : Im) : Prop :=
  (w.cell? ⟨R, 0, none⟩ = some (.int .i64 I.iw) ∧ w.cell? ⟨R, 1, none⟩ = some (.int .i64 I.ih) ∧ w.cell? ⟨R, 2, none⟩ = some (.int .i64 I.ic) ∧ w.cell? ⟨R, 3, none⟩ = some (.int .i64 I.it) ∧ w.cell? ⟨R, 4, none⟩ = some (.slice (some ⟨b, 0, none⟩) I.il.length cap)) ∧
  (w.frozen? ⟨R, 0, none⟩ = false ∧ w.frozen? ⟨R, 1, none⟩ = false ∧ w.frozen? ⟨R, 2, none⟩ = false ∧ w.frozen? ⟨R, 3, none⟩ = false ∧ w.frozen? ⟨R, 4, none⟩ = false) ∧ RowAt .u16 w (some ⟨b, 0, none⟩) I.il ∧ b ≠ R ∧ I.il.length ≤ cap ∧ 1 ≤ I.il.length
theorem RCell.below {w w' : World} {R b cap : Nat} {I : Im} (h : RCell w R b cap I) (hb : Below w.heap.size w w') : RCell w' R b cap I := by
  obtain ⟨c, ⟨z0, z1, z2, z3, z4⟩, r, ne, k⟩ := h
  have l := cell_ltL c.1
  exact ⟨s5_below c hb, ⟨fb hb l z0, fb hb l z1, fb hb l z2, fb hb l z3, fb hb l z4⟩, r.below hb, ne, k⟩
theorem RCell.lt {w : World} {R b cap : Nat} {I : Im} (h : RCell w R b cap I) : R < w.heap.size ∧ b < w.heap.size := by
  obtain ⟨c, _, r, _, _, k⟩ := h
  exact ⟨cell_ltL c.1, cell_ltL (r.at k)⟩
theorem RCell.grown {w w' : World} {R b cap : Nat} {I : Im} {row : Option Nat} (h : RCell w R b cap I) (hg : w.grownBy w' row) (n1 : some R ≠ row) (n2 : some b ≠ row) : RCell w' R b cap I := by
  obtain ⟨⟨c0, c1, c2, c3, c4⟩, ⟨z0, z1, z2, z3, z4⟩, r, ne, k⟩ := h
  exact ⟨⟨cg hg n1 c0, cg hg n1 c1, cg hg n1 c2, cg hg n1 c3, cg hg n1 c4⟩, ⟨fg hg n1 c0 z0, fg hg n1 c1 z1, fg hg n1 c2 z2, fg hg n1 c3 z3, fg hg n1 c4 z4⟩, r.grown hg n2, ne, k⟩
theorem set_else {w : World} {a b o j : Nat} {u : Value} (h : a ≠ b ∨ o ≠ j) : (w.setCell ⟨a, o, none⟩ u).cell? ⟨b, j, none⟩ = w.cell? ⟨b, j, none⟩ :=
  World.cell?_setCell_other _ _ _ _ (by intro e; simp only [Addr.mk.injEq, and_true] at e; omega)
/-- A new value is written into it. -/
theorem RCell.store {w W : World} {R b cap b' cap' : Nat} {I I' : Im} (h : RCell w R b cap I) (r' : RowAt .u16 w (some ⟨b', 0, none⟩) I'.il) (ne : b' ≠ R) (k1 : I'.il.length ≤ cap') (k0 : 1 ≤ I'.il.length)
    (hW : W = ((((w.setCell ⟨R, 0, none⟩ (.int .i64 I'.iw)).setCell ⟨R, 1, none⟩ (.int .i64 I'.ih)).setCell ⟨R, 2, none⟩ (.int .i64 I'.ic)).setCell ⟨R, 3, none⟩ (.int .i64 I'.it)).setCell ⟨R, 4, none⟩ (.slice (some ⟨b', 0, none⟩) I'.il.length cap')) :
    RCell W R b' cap' I' ∧ w.grownBy W (some R) := by
  subst hW
  obtain ⟨⟨c0, c1, c2, c3, c4⟩, ⟨z0, z1, z2, z3, z4⟩, r, _, _⟩ := h
  have nb : some b' ≠ some R := fun e => ne (Option.some.inj e)
  refine ⟨⟨⟨?_, ?_, ?_, ?_, ?_⟩, ⟨?_, ?_, ?_, ?_, ?_⟩, ?_, ne, k1, k0⟩, ?_⟩
  · exact (set_else (Or.inr (by decide))).trans ((set_else (Or.inr (by decide))).trans ((set_else (Or.inr (by decide))).trans ((set_else (Or.inr (by decide))).trans (World.cell?_setCell_same' _ _ _ (by rw [c0]; rfl)))))
  · exact (set_else (Or.inr (by decide))).trans ((set_else (Or.inr (by decide))).trans ((set_else (Or.inr (by decide))).trans (World.cell?_setCell_same' _ _ _ (by rw [set_else (Or.inr (by decide)), c1]; rfl))))
  · exact (set_else (Or.inr (by decide))).trans ((set_else (Or.inr (by decide))).trans (World.cell?_setCell_same' _ _ _ (by rw [set_else (Or.inr (by decide)), set_else (Or.inr (by decide)), c2]; rfl)))
  · exact (set_else (Or.inr (by decide))).trans (World.cell?_setCell_same' _ _ _ (by rw [set_else (Or.inr (by decide)), set_else (Or.inr (by decide)), set_else (Or.inr (by decide)), c3]; rfl))
  · exact World.cell?_setCell_same' _ _ _ (by rw [set_else (Or.inr (by decide)), set_else (Or.inr (by decide)), set_else (Or.inr (by decide)), set_else (Or.inr (by decide)), c4]; rfl)
  · simp only [World.frozen?_setCell]; exact z0
  · simp only [World.frozen?_setCell]; exact z1
  · simp only [World.frozen?_setCell]; exact z2
  · simp only [World.frozen?_setCell]; exact z3
  · simp only [World.frozen?_setCell]; exact z4
  · exact ((((r'.grown (grown_set _ R 0 _) nb).grown (grown_set _ R 1 _) nb).grown (grown_set _ R 2 _) nb).grown (grown_set _ R 3 _) nb).grown (grown_set _ R 4 _) nb
  · exact ((((grown_set _ R 0 _).trans (grown_set _ R 1 _)).trans (grown_set _ R 2 _)).trans (grown_set _ R 3 _)).trans (grown_set _ R 4 _)
end Go.Proofs.Ytcamllahcjonkaa
