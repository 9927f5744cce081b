/- Parts, joined. -/
import Derived.Test.YtdpkigdfhfippaaGreatDoorJ19
import Derived.Test.YtdpkigdfhfippaaGreatDoorRows
import Derived.ProofKit
import Derived.LaidMore
import Derived.OpenShut
/- The table of filters, out of what the row lists. -/
namespace Go.Proofs.YtdpkigdfhfippaaGreatDoor
open Go.ChangeShapes Go.WideShapes Go.ChangeAt Go.WideMaps Go.WideElems Go.RowKit

theorem gKinds : Tryz.prog.globalNamed "smalto/raw.kinds" = some 1 := by kernel_rfl
theorem tKinds : (Tryz.prog.globals[1]?).map (·.type) = some 119 := by kernel_rfl
theorem cellsKinds : Tryz.prog.cellsOf 119 = 6 := by kernel_rfl
theorem cellsKind : Tryz.prog.cellsOf 118 = 2 := by kernel_rfl
theorem cellsStrK : Tryz.prog.cellsOf 9 = 1 := by kernel_rfl
theorem cellsI64K : Tryz.prog.cellsOf 2 = 1 := by kernel_rfl
theorem string_of_bytes {s : ByteArray} {l : List UInt8} (h : s.data.toList = l) : s = ⟨l.toArray⟩ := by
  subst h; rfl
theorem kind_cells {H : Type} {enc : TypeId × Value → H} {w : World} {base : Nat} {sp : Nat → Bool} {held : Bool} {fuel : Nat} {a b : Value} {l : List UInt8} {n : Int} {y : DataW H × List MemPlace}
    (h : DataW.trod enc Tryz.prog w base sp held fuel 118 [a, b] = some y) (hy : y.1 = .agg [.lit (.string l), .lit (.int .i64 n)]) : a = .string ⟨l.toArray⟩ ∧ b = .int .i64 n := by
  obtain ⟨y0, y1, m, rfl, _, h0, h1⟩ := trod_struct2 Tryz.underlying118 h
  simp [cellsStrK, cellsI64K] at h0 h1 hy
  obtain ⟨s, e0, rfl, _⟩ := DataW.trod_string Tryz.underlying9 h0
  obtain ⟨k, e1, rfl, _⟩ := DataW.trod_int Tryz.underlying2 h1
  simp at e0 e1 hy
  obtain ⟨g0, rfl⟩ := hy
  exact ⟨by rw [e0, string_of_bytes g0], e1⟩
set_option maxRecDepth 100000 in
theorem kinds_cells {H : Type} {enc : TypeId × Value → H} {w : World} {base : Nat} {sp : Nat → Bool} {held : Bool} {fuel : Nat} {cs : Array Value} {p : List MemPlace}
    (h : DataW.trod enc Tryz.prog w base sp held fuel 119 cs.toList = some (Rows.laid_smalto_raw_kinds, p)) :
    cs = #[.string ⟨#[98, 111, 120]⟩, .int .i64 0, .string ⟨#[99, 117, 98, 105, 99]⟩, .int .i64 2, .string ⟨#[108, 97, 110, 99, 122, 111, 115]⟩, .int .i64 3] := by
  obtain ⟨l⟩ := cs
  obtain ⟨xs, m, rfl, hx, hl, hn, he⟩ := DataW.trod_array Tryz.underlying119 h
  rw [cellsKinds] at hl
  rw [cellsKind] at he
  obtain ⟨c0, c1, c2, c3, c4, c5, rfl⟩ : ∃ c0 c1 c2 c3 c4 c5, l = [c0, c1, c2, c3, c4, c5] := by
    match l, hl with
    | [a, b, c, d, e, f], _ => exact ⟨a, b, c, d, e, f, rfl⟩
  obtain ⟨y0, y1, y2, rfl⟩ : ∃ y0 y1 y2, xs = [y0, y1, y2] := by
    match xs, hn with
    | [a, b, c], _ => exact ⟨a, b, c, rfl⟩
  have h0 := he 0 (by omega)
  have h1 := he 1 (by omega)
  have h2 := he 2 (by omega)
  simp at h0 h1 h2
  simp [Rows.laid_smalto_raw_kinds] at hx
  obtain ⟨⟨g0, g1, g2⟩, _⟩ := hx
  obtain ⟨rfl, rfl⟩ := kind_cells h0 g0.symm
  obtain ⟨rfl, rfl⟩ := kind_cells h1 g1.symm
  obtain ⟨rfl, rfl⟩ := kind_cells h2 g2.symm
  rfl
end Go.Proofs.YtdpkigdfhfippaaGreatDoor
