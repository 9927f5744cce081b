/- Images in memory: the record g, the samples h. No number of the program stands in it. -/
import Derived.Test.YtoppojilndnghaaDoorS09A
import Derived.Test.YtoppojilndnghaaDoorLG
namespace Go.Proofs.YtoppojilndnghaaDoor
open Go.RowKit


/-- The record g and the samples h hold this image. -/
def ImgAt (w : World) (g h : Nat) (I : Im) : Prop :=
  ∃ cap, w.cell? ⟨g, 0, none⟩ = some (.int .i64 I.iw) ∧ w.cell? ⟨g, 1, none⟩ = some (.int .i64 I.ih) ∧ w.cell? ⟨g, 2, none⟩ = some (.int .i64 I.ic) ∧ w.cell? ⟨g, 3, none⟩ = some (.int .i64 I.it) ∧
    w.cell? ⟨g, 4, none⟩ = some (.slice (some ⟨h, 0, none⟩) I.il.length cap) ∧ RowAt .u16 w (some ⟨h, 0, none⟩) I.il ∧ (∀ j, j < I.il.length → w.frozen? ⟨h, j, none⟩ = false) ∧ I.il.length ≤ cap ∧ g ≠ h ∧ ImOk I
theorem ImgAt.ok {w : World} {g h : Nat} {I : Im} (H : ImgAt w g h I) : ImOk I := by
  obtain ⟨_, _, _, _, _, _, _, _, _, _, k⟩ := H
  exact k
theorem ImgAt.ne {w : World} {g h : Nat} {I : Im} (H : ImgAt w g h I) : g ≠ h := by
  obtain ⟨_, _, _, _, _, _, _, _, _, k, _⟩ := H
  exact k
theorem ImgAt.lt {w : World} {g h : Nat} {I : Im} (H : ImgAt w g h I) : g < w.heap.size ∧ h < w.heap.size := by
  obtain ⟨_, c0, _, _, _, _, r, _, _, _, k⟩ := H
  exact ⟨cell_ltL c0, cell_ltL (r.at (imOk_len k).1)⟩
theorem ImgAt.below {w w' : World} {g h : Nat} {I : Im} (H : ImgAt w g h I) (hb : Below w.heap.size w w') : ImgAt w' g h I := by
  have hl := H.lt
  obtain ⟨cap, c0, c1, c2, c3, c4, r, z, hc, hne, k⟩ := H
  exact ⟨cap, cb hb hl.1 c0, cb hb hl.1 c1, cb hb hl.1 c2, cb hb hl.1 c3, cb hb hl.1 c4, r.below hb, fun j hj => fb hb hl.2 (z j hj), hc, hne, k⟩
theorem ImgAt.grown {w w' : World} {g h : Nat} {I : Im} {row : Option Nat} (H : ImgAt w g h I) (hg : w.grownBy w' row) (n1 : some g ≠ row) (n2 : some h ≠ row) : ImgAt w' g h I := by
  obtain ⟨cap, c0, c1, c2, c3, c4, r, z, hc, hne, k⟩ := H
  exact ⟨cap, cg hg n1 c0, cg hg n1 c1, cg hg n1 c2, cg hg n1 c3, cg hg n1 c4, r.grown hg n2, fun j hj => fg hg n2 (by have := r.at hj; rw [Nat.zero_add] at this; exact this) (z j hj), hc, hne, k⟩
/-- A sample is set. -/
theorem ImgAt.put {w : World} {g h : Nat} {I : Im} (H : ImgAt w g h I) {x y z v : Int} (v0 : 0 ≤ v) (hs : setOk I x y z v = true) : ImgAt (w.setCell ⟨h, (imPlace I x y z).toNat, none⟩ (.int .u16 v)) g h (imSet I x y z v) := by
  have hg := grown_set w h (imPlace I x y z).toNat (.int .u16 v)
  obtain ⟨cap, c0, c1, c2, c3, c4, r, zz, hc, hne, k⟩ := H
  have k' := imSet_ok (x := x) (y := y) (z := z) k v0
  have hh : hasF I x y z = true := by unfold setOk at hs; exact (Bool.and_eq_true .. ▸ hs).1
  obtain ⟨_, hp, _, _⟩ := imPlace_in k hh
  have r' := r.put _ hp v
  rw [Nat.zero_add] at r'
  have e : imSet I x y z v = { I with il := I.il.set (imPlace I x y z).toNat v } := by unfold imSet; rw [if_pos hs]
  rw [e] at k' ⊢
  have n1 : some g ≠ some h := fun e => hne (Option.some.inj e)
  refine ⟨cap, cg hg n1 c0, cg hg n1 c1, cg hg n1 c2, cg hg n1 c3, ?_, r', fun j hj => ?_, ?_, hne, k'⟩
  · rw [List.length_set]; exact cg hg n1 c4
  · rw [World.frozen?_setCell]
    exact zz j (by simpa using hj)
  · rw [List.length_set]; exact hc
/-- A new image: its samples are made, its record is laid. -/
theorem ImgAt.new {w : World} {h cap : Nat} {I : Im} {T : TypeId} (hr : RowAt .u16 w (some ⟨h, 0, none⟩) I.il) (hz : ∀ j, w.frozen? ⟨h, j, none⟩ = false) (hc : I.il.length ≤ cap) (k : ImOk I) :
    ImgAt (w.alloc (.cells #[.int .i64 I.iw, .int .i64 I.ih, .int .i64 I.ic, .int .i64 I.it, .slice (some ⟨h, 0, none⟩) I.il.length cap] T)) w.heap.size h I := by
  have hl := cell_ltL (hr.at (imOk_len k).1)
  exact ⟨cap, by simp, by simp, by simp, by simp, by simp, hr.below (below1 _ _), fun j hj => fb (below1 _ _) hl (hz j), hc, Nat.ne_of_gt hl, k⟩
/-- What a call answers that makes an image. -/
def ImgNew (B : Nat) (w : World) (v : Value) (I : Im) : Prop := ∃ g h, v = .pointer (some ⟨g, 0, none⟩) ∧ B ≤ g ∧ B ≤ h ∧ ImgAt w g h I
theorem allU {xs : List Int} (h : AllK .u16 xs) : ∀ x ∈ xs, 0 ≤ x ∧ x ≤ 65535 := fun x hx => by simpa [Lit.wf, IntKind.min, IntKind.max, IntKind.signed, IntKind.bits] using h x hx
end Go.Proofs.YtoppojilndnghaaDoor
