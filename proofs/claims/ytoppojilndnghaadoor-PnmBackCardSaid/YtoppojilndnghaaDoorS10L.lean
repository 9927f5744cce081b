/- A head as an argument: opened and shut. -/
import Derived.Test.YtoppojilndnghaaDoorS10D
import Derived.Deep.Fields
import Derived.ChangeSame
import Derived.OpenShut
namespace Go.Proofs.YtoppojilndnghaaDoor
open Go.RowKit


/-- What numbers a head may have. -/
def HdWf (x : Hd) : Prop := (Lit.int .i64 x.hc).wf = true ∧ (Lit.int .i64 x.hw).wf = true ∧ (Lit.int .i64 x.hh).wf = true ∧ (Lit.int .i64 x.ht).wf = true ∧ (Lit.int .i64 x.hs).wf = true
def hdD {H : Type} (x : Hd) : DataW H := .agg [.lit (.int .i64 x.hc), .lit (.int .i64 x.hw), .lit (.int .i64 x.hh), .lit (.int .i64 x.ht), .lit (.int .i64 x.hs)]
theorem head_open {H : Type} {enc : TypeId × Value → H} {w : World} {r : Reach} {b0 base : Nat} {spare : Nat → Bool} {held : Bool} {v : Value} {d : DataW H} {p : List MemPlace}
    (hv : Value.okWide Tryd.prog w r b0 47 v) (h : DataW.Trod enc Tryd.prog w base spare held 47 v d p) : ∃ x : Hd, v = hdV x ∧ d = hdD x ∧ p = [] ∧ HdWf x := by
  obtain ⟨cs, rfl, hsz⟩ := Go.WideShapes.okWide_struct Tryd.underlying47 hv
  obtain ⟨n, hn⟩ := h
  obtain ⟨ys, n', _, hx, hlen, hyl, hf⟩ := DataW.trod_struct Tryd.underlying47 hn
  have hC : Tryd.prog.cellsOf 47 = 5 := by kernel_rfl
  have k3 : Tryd.prog.cellsOf 3 = 1 := by kernel_rfl
  rw [hC] at hsz
  obtain ⟨l⟩ := cs
  match l, hsz with
  | [c0, c1, c2, c3, c4], _ =>
    have hy4 : ys.length = 5 := hyl
    match ys, hy4 with
    | [y0, y1, y2, y3, y4], _ =>
      have f0 : DataW.trod enc Tryd.prog w base spare held n' 3 (List.take (Tryd.prog.cellsOf 3) (List.drop 0 [c0, c1, c2, c3, c4])) = some y0 := hf 0 _ rfl
      have f1 : DataW.trod enc Tryd.prog w base spare held n' 3 (List.take (Tryd.prog.cellsOf 3) (List.drop 1 [c0, c1, c2, c3, c4])) = some y1 := hf 1 _ rfl
      have f2 : DataW.trod enc Tryd.prog w base spare held n' 3 (List.take (Tryd.prog.cellsOf 3) (List.drop 2 [c0, c1, c2, c3, c4])) = some y2 := hf 2 _ rfl
      have f3 : DataW.trod enc Tryd.prog w base spare held n' 3 (List.take (Tryd.prog.cellsOf 3) (List.drop 3 [c0, c1, c2, c3, c4])) = some y3 := hf 3 _ rfl
      have f4 : DataW.trod enc Tryd.prog w base spare held n' 3 (List.take (Tryd.prog.cellsOf 3) (List.drop 4 [c0, c1, c2, c3, c4])) = some y4 := hf 4 _ rfl
      rw [k3] at f0 f1 f2 f3 f4
      obtain ⟨x0, q0, rfl, w0⟩ := DataW.trod_int Tryd.underlying3 f0
      obtain ⟨x1, q1, rfl, w1⟩ := DataW.trod_int Tryd.underlying3 f1
      obtain ⟨x2, q2, rfl, w2⟩ := DataW.trod_int Tryd.underlying3 f2
      obtain ⟨x3, q3, rfl, w3⟩ := DataW.trod_int Tryd.underlying3 f3
      obtain ⟨x4, q4, rfl, w4⟩ := DataW.trod_int Tryd.underlying3 f4
      simp at q0 q1 q2 q3 q4
      subst q0 q1 q2 q3 q4
      simp only [Prod.mk.injEq] at hx
      exact ⟨⟨x0, x1, x2, x3, x4⟩, rfl, hx.1, hx.2, w0, w1, w2, w3, w4⟩
theorem head_shut {H : Type} {enc : TypeId × Value → H} {w : World} {base : Nat} {spare : Nat → Bool} {held : Bool} {x : Hd} (hx : HdWf x) : DataW.Trod enc Tryd.prog w base spare held 47 (hdV x) (hdD x) [] := by
  obtain ⟨w0, w1, w2, w3, w4⟩ := hx
  have hC : Tryd.prog.cellsOf 47 = 5 := by kernel_rfl
  have k3 : Tryd.prog.cellsOf 3 = 1 := by kernel_rfl
  have t := fun a (ha : (Lit.int .i64 a).wf = true) => Go.ChangeShapes.trod_int_mk (enc := enc) (w := w) (base := base) (spare := spare) (held := held) (n := a) 0 Tryd.underlying3 ha
  have ts := Go.ChangeShapes.trod_struct_mk (enc := enc) (w := w) (base := base) (spare := spare) (held := held) (n := 1) (cs := [.int .i64 x.hc, .int .i64 x.hw, .int .i64 x.hh, .int .i64 x.ht, .int .i64 x.hs])
    (xs := [(.lit (.int .i64 x.hc), []), (.lit (.int .i64 x.hw), []), (.lit (.int .i64 x.hh), []), (.lit (.int .i64 x.ht), []), (.lit (.int .i64 x.hs), [])]) Tryd.underlying47 (by rw [hC]; rfl)
    (by simp [k3, t _ w0, t _ w1, t _ w2, t _ w3, t _ w4])
  exact ⟨_, by simpa [Value.cells, hdV, hdD] using ts⟩
theorem HdWf.in (x : Hd) (h : HdWf x) : (-9223372036854775808 ≤ x.hw ∧ x.hw ≤ 9223372036854775807) ∧ (-9223372036854775808 ≤ x.hh ∧ x.hh ≤ 9223372036854775807) ∧ (-9223372036854775808 ≤ x.ht ∧ x.ht ≤ 9223372036854775807) := by
  obtain ⟨_, w1, w2, w3, _⟩ := h
  simpa [Lit.wf, IntKind.min, IntKind.max, IntKind.signed, IntKind.bits] using And.intro w1 (And.intro w2 w3)
end Go.Proofs.YtoppojilndnghaaDoor
