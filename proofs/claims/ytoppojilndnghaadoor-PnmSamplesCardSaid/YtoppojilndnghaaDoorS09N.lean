/- The document's images, as values: a sample is set; an image read as a value; two of them compared. -/
import Derived.Test.YtoppojilndnghaaDoorS09M
import Derived.Deep.CutBlock
namespace Go.Proofs.YtoppojilndnghaaDoor
open Go.RowKit

set_option maxHeartbeats 400000 in
/-- An image read as a value. -/
theorem dref_any {w : World} {g h : Nat} {I : Im} (H : ImgAt w g h I) : Calls Tryd.prog 12 #[.pointer (some ⟨g, 0, none⟩)] w fun e w' => ∃ b cap, e = .returned (imV I b I.il.length cap) ∧ RowAt .u16 w' (some ⟨b, 0, none⟩) I.il ∧ w.heap.size ≤ b ∧ b < w'.heap.size ∧ I.il.length ≤ cap ∧ Below w.heap.size w w' := by
  unfold imV
  have HI := hide (H.below (below1 w (.cells #[.int .i64 0, .int .i64 0, .int .i64 0, .int .i64 0, .slice none 0 0] 30)))
  have CW := img_width HI.out
  have CH := img_height HI.out
  have CC := img_channels HI.out
  have CT := img_most HI.out
  have CS := img_samples HI.out
  obtain ⟨l0, l1⟩ := imOk_len H.ok
  obtain ⟨n, hn⟩ : ∃ n, I.il.length = n := ⟨_, rfl⟩
  have HN := hide hn
  rw [hn] at l0 l1 ⊢
  clear H HI hn
  generalize I.iw = a at *
  generalize I.ih = a2 at *
  generalize I.ic = a3 at *
  generalize I.it = a4 at *
  go_enter Tryd.func12, Tryd.ntmps12
  go_wp2_with (first
    | (go_at_call 29; (with_reducible refine CW.mono ?_); rintro e w1 ⟨rfl, rfl⟩)
    | (go_at_call 30; (with_reducible refine CH.mono ?_); rintro e w1 ⟨rfl, rfl⟩)
    | (go_at_call 31; (with_reducible refine CC.mono ?_); rintro e w1 ⟨rfl, rfl⟩)
    | (go_at_call 17; (with_reducible refine CT.mono ?_); rintro e w1 ⟨rfl, rfl⟩)
    | (go_at_call 18; (with_reducible refine CS.mono ?_); rintro e w1 ⟨v, rfl, own, b1⟩; obtain ⟨b', cp, rfl, hb0, hb1, hr2, hcp, _⟩ := own_row own HN.out l0; have HR2 := hide hr2; have c0 := cb b1 (b := w.heap.size) (o := 0) (v := .int .i64 0) (by simp) (by simp); have y0 := fb b1 (b := w.heap.size) (o := 0) (by simp) (by simp); have c1 := cb b1 (b := w.heap.size) (o := 1) (v := .int .i64 0) (by simp) (by simp); have y1 := fb b1 (b := w.heap.size) (o := 1) (by simp) (by simp); have c2 := cb b1 (b := w.heap.size) (o := 2) (v := .int .i64 0) (by simp) (by simp); have y2 := fb b1 (b := w.heap.size) (o := 2) (by simp) (by simp); have c3 := cb b1 (b := w.heap.size) (o := 3) (v := .int .i64 0) (by simp) (by simp); have y3 := fb b1 (b := w.heap.size) (o := 3) (by simp) (by simp); have c4 := cb b1 (b := w.heap.size) (o := 4) (v := .slice none 0 0) (by simp) (by simp); have y4 := fb b1 (b := w.heap.size) (o := 4) (by simp) (by simp)))
  have g0 : b' ≠ w.heap.size := by simp at hb0; omega
  have g1 : w.heap.size ≤ b' := by simp at hb0; omega
  have ne : some b' ≠ some w.heap.size := fun e => g0 (Option.some.inj e)
  have HF := hide (((((HR2.out.grown (grown_set _ w.heap.size 0 (.int .i64 a)) ne).grown (grown_set _ w.heap.size 1 (.int .i64 a2)) ne).grown (grown_set _ w.heap.size 2 (.int .i64 a3)) ne).grown (grown_set _ w.heap.size 3 (.int .i64 a4)) ne).grown (grown_set _ w.heap.size 4 (.slice (some ⟨b', 0, none⟩) n cp)) ne)
  have HB := hide (bs (bs (bs (bs (bs (bt (below1 w _) b1) (b := w.heap.size) (o := 0) (Nat.le_refl _) (.int .i64 a)) (b := w.heap.size) (o := 1) (Nat.le_refl _) (.int .i64 a2)) (b := w.heap.size) (o := 2) (Nat.le_refl _) (.int .i64 a3)) (b := w.heap.size) (o := 3) (Nat.le_refl _) (.int .i64 a4)) (b := w.heap.size) (o := 4) (Nat.le_refl _) (.slice (some ⟨b', 0, none⟩) n cp))
  have sz := HB.out.size
  have HZ := hide (show b' < w1.heap.size from hb1)
  clear CS HR2 hr2 own b1 hb0 hb1 sz
  exact bodyPost_ret (v := .agg #[.int .i64 a, .int .i64 a2, .int .i64 a3, .int .i64 a4, .slice (some ⟨b', 0, none⟩) n cp]) (by simp [results, Tryd.results12, go_sem, c0, c1, c2, c3, c4]) rfl ⟨b', cp, rfl, HF.out, g1, (by simp [World.setCell]; exact HZ.out), hcp, HB.out⟩
end Go.Proofs.YtoppojilndnghaaDoor
