/- Parts, joined. -/
import Derived.Test.YtlknopmpbkepjaaDoorProg
import Derived.Test.YtlknopmpbkepjaaDoorRows
import Derived.WalkKit
import Derived.WalkSpells
import Derived.WalkLawsBesides
import Derived.IntWalk
import Derived.Deep.QuietTactic
import Derived.BigQuiet
import Derived.Deep.RegionHeld3
import Derived.Deep.DeepCutAuto
import Derived.Laws.Bits64b
import Derived.Shelf.Bits.Mul64
import Derived.Laws.Externs
import Derived.Shelf.Spec.BitsCarry
import Derived.Laws.FloatArith
import Derived.RowKit
import Derived.Lib.BitFns
import Derived.Shelf.Small.Bits
import Derived.Deep.CutBlock
import Derived.OwnWalk
import Derived.ProofKit
import Derived.LaidMore
import Derived.OpenShut
/- Plain arithmetic for this seat: quotients, numbers of 128 bits as two halves. No program text in sight. -/
namespace Go.Proofs.YtlknopmpbkepjaaDoor


/-- The halves of a number of 128 bits. -/
def hi (x : Int) : Int := x / 18446744073709551616
def lo (x : Int) : Int := x % 18446744073709551616
theorem hl (x : Int) : hi x * 18446744073709551616 + lo x = x := by unfold hi lo; omega
theorem hi0 {x : Int} (h : 0 ≤ x) : 0 ≤ hi x := by unfold hi; omega
/-- A number without sign. -/
def absI (x : Int) : Int := if x < 0 then -x else x
/-- Within 64 bits, with a sign. -/
def holdI (x : Int) : Int := if x < -9223372036854775808 then -9223372036854775808 else if 9223372036854775807 < x then 9223372036854775807 else x
/-- The quotient downwards, and what is left. -/
def floorQ (a b : Int) : Int := if b < 0 then (-a) / (-b) else a / b
/-- The nearest number: a half goes up. -/
def nearQ (a b : Int) : Int := if b < 0 then (2 * (-a) + (-b)) / (2 * (-b)) else (2 * a + b) / (2 * b)
end Go.Proofs.YtlknopmpbkepjaaDoor

/- Plain arithmetic for this seat: quotients of numbers with signs, cut, downwards and to the nearest. No program text in sight. -/
namespace Go.Proofs.YtlknopmpbkepjaaDoor


def floorF (a b : Int) : Int := if b = 0 then 0 else holdI (floorQ a b)
def divF (a b : Int) : Int := if b = 0 then 0 else holdI (nearQ a b)
end Go.Proofs.YtlknopmpbkepjaaDoor

/- What the small calls of the document's answers (layer 1) do to the world: numbers of 128 bits. -/
namespace Go.Proofs.YtlknopmpbkepjaaDoor
open Go.RowKit


theorem hide {p : Prop} (h : p) : Hid p := h
theorem below1 (w : World) (o : Obj) : Below w.heap.size w (w.alloc o) := (Below.refl _ _).alloc (Nat.le_refl _) _
theorem ret_i64 {a b : Int} (h : a = b) : Ending.returned (.int .i64 a) = .returned (.int .i64 b) := by rw [h]
theorem ret_bool {a b : Bool} (h : a = b) : Ending.returned (.bool a) = .returned (.bool b) := by rw [h]
end Go.Proofs.YtlknopmpbkepjaaDoor

/- The program's quotients (package fixed): each as plain arithmetic. -/
namespace Go.Proofs.YtlknopmpbkepjaaDoor
open Go.RowKit

/-! ### Shift -/
def shiftF (x n : Int) : Int := if n ≤ 0 then x else if 63 < n then 0 else (x / 2 ^ (n.toNat - 1) + 1) / 2
end Go.Proofs.YtlknopmpbkepjaaDoor

/- The exponential function, in integers: plain arithmetic. -/
namespace Go.Proofs.YtlknopmpbkepjaaDoor
open Go.RowKit


/-- The terms, and their sum, with signs in turn. -/
def termE (r : Int) : Nat → Int
  | 0 => 1099511627776
  | n + 1 => divF (termE r n * r) (((n : Int) + 1) * 1099511627776)
def sumE (r : Int) : Nat → Int
  | 0 => 1099511627776
  | n + 1 => if n % 2 = 0 then sumE r n - termE r (n + 1) else sumE r n + termE r (n + 1)
def posI (t : Int) : Int := max t 0
def expoF (t : Int) : Int := shiftF (sumE (posI t % 762123384786) 16) (posI t / 762123384786)
def ratioF (d s : Int) : Int := if s < 1 ∨ 4194304 < s ∨ d < -16384 ∨ 16384 < d then 9223372036854775807 else divF (d * d * 2147483648 * 1099511627776) (s * s)
def gaussF (d s : Int) : Int := shiftF (expoF (ratioF d s)) 10
end Go.Proofs.YtlknopmpbkepjaaDoor

/- Long products and quotients of the document's answers (layer 1): their loops. -/
namespace Go.Proofs.YtlknopmpbkepjaaDoor
open Go.RowKit

theorem cb {W w1 : World} {b o : Nat} {v : Value} (hb : Below W.heap.size W w1) (h : b < W.heap.size) (hc : W.cell? ⟨b, o, none⟩ = some v) : w1.cell? ⟨b, o, none⟩ = some v := (hb.cell (p := ⟨b, o, none⟩) h).trans hc
theorem fb {W w1 : World} {b o : Nat} (hb : Below W.heap.size W w1) (h : b < W.heap.size) (hc : W.frozen? ⟨b, o, none⟩ = false) : w1.frozen? ⟨b, o, none⟩ = false := (hb.frozen (p := ⟨b, o, none⟩) h).trans hc
theorem cs {w : World} {b o b' o' : Nat} {v u : Value} (h : b' ≠ b ∨ o' ≠ o) (hc : w.cell? ⟨b, o, none⟩ = some v) : (w.setCell ⟨b', o', none⟩ u).cell? ⟨b, o, none⟩ = some v := by
  have hne : (⟨b', o', none⟩ : Addr) ≠ ⟨b, o, none⟩ := by
    intro e
    injection e with e1 e2
    omega
  exact (World.cell?_setCell_other _ _ _ _ hne).trans hc
end Go.Proofs.YtlknopmpbkepjaaDoor

/- The rounded quotients of the document's answers (layer 1). -/
namespace Go.Proofs.YtlknopmpbkepjaaDoor
open Go.RowKit


theorem bt {a w w1 : World} (h : Below a.heap.size a w) (b : Below w.heap.size w w1) : Below a.heap.size a w1 := h.trans (b.mono h.size)
theorem ba {a w : World} (h : Below a.heap.size a w) (o : Obj) : Below a.heap.size a (w.alloc o) := h.alloc h.size o
theorem bs {a w : World} {b o : Nat} (h : Below a.heap.size a w) (hp : a.heap.size ≤ b) (u : Value) : Below a.heap.size a (w.setCell ⟨b, o, none⟩ u) := h.setCell (p := ⟨b, o, none⟩) hp u
theorem bd {a w : World} (h : Below a.heap.size a w) : Below a.heap.size a w.drew := h.drew
theorem ca {w : World} {b o : Nat} {v : Value} {ob : Obj} (h : b < w.heap.size) (hc : w.cell? ⟨b, o, none⟩ = some v) : (w.alloc ob).cell? ⟨b, o, none⟩ = some v := (World.cell?_alloc_past ob b o h).trans hc
end Go.Proofs.YtlknopmpbkepjaaDoor

/- Long numbers: products, divided and shifted down, rounded. -/
namespace Go.Proofs.YtlknopmpbkepjaaDoor
open Go.RowKit


/-- What a product by bits comes to. -/
def mulShiftF (a b n : Int) : Int := if 127 < n then 0 else if n ≤ 0 then holdI (a * b) else holdI (nearQ (a * b) (2 ^ n.toNat))
end Go.Proofs.YtlknopmpbkepjaaDoor

/- The sine, divided by what it is of, in integers: plain arithmetic. -/
namespace Go.Proofs.YtlknopmpbkepjaaDoor
open Go.RowKit


/-- The i-th divisor, for i = k + 1. -/
def divS (k : Nat) : Int := 2 * ((k : Int) + 1) * (2 * ((k : Int) + 1) + 1) * 1099511627776
/-- The terms, and their sum, with signs in turn. -/
def termS (u : Int) : Nat → Int
  | 0 => 1099511627776
  | n + 1 => divF (termS u n * u) (divS n)
def sumS (u : Int) : Nat → Int
  | 0 => 1099511627776
  | n + 1 => if n % 2 = 0 then sumS u n - termS u (n + 1) else sumS u n + termS u (n + 1)
def uF (p q : Int) : Int := divF (divF (10851744800547 * p) q * p) q
def mayF (p q : Int) : Bool := decide (1 ≤ q) && decide (q ≤ 1048576) && decide (-4 * q ≤ p) && decide (p ≤ 4 * q)
def seriesF (p q : Int) : Int := sumS (uF (absI p) q) 30
def lanczosF (p q : Int) : Int := if mayF p q = true ∧ -3 * q < p ∧ p < 3 * q then shiftF (mulShiftF (seriesF p q) (seriesF p (3 * q)) 40) 10 else 0
end Go.Proofs.YtlknopmpbkepjaaDoor

/- What each source sample weighs: Keys' cubic, in integers and by float64. -/
namespace Go.Proofs.YtlknopmpbkepjaaDoor
open Go.RowKit Ieee

/-- Keys' cubic, as a raw weight. -/
def lowK (p q : Int) : Int := 3 * (p * p * p) - 5 * (p * p) * q + 2 * (q * q * q)
def highK (p q : Int) : Int := 5 * (p * p) * q - p * p * p - 8 * p * (q * q) + 4 * (q * q * q)
def keysF (p q : Int) : Int := if 1 ≤ q ∧ q ≤ 262144 ∧ p < 2 * q ∧ -2 * q < p then (if absI p < q then divF (lowK (absI p) q * 1073741824) (2 * (q * q * q)) else divF (highK (absI p) q * 1073741824) (2 * (q * q * q))) else 0
end Go.Proofs.YtlknopmpbkepjaaDoor

/- What each source sample weighs: the document's calls for one sample. -/
namespace Go.Proofs.YtlknopmpbkepjaaDoor
open Go.RowKit

def fracP (n m i j : Int) : Int := 2 * m * j - (2 * i + 1) * n + m
def fracQ (n m : Int) : Int := if n < m then 2 * m else 2 * n
def weightR (f n m i j : Int) : Int := if f = 0 then divF ((min ((i + 1) * n) ((j + 1) * m) - max (i * n) (j * m)) * 1073741824) n else if f = 1 then keysF (fracP n m i j) (fracQ n m) else lanczosF (fracP n m i j) (fracQ n m)
end Go.Proofs.YtlknopmpbkepjaaDoor

/- What each source sample weighs: the laws on rows, out of what the program's own calls answer. -/
namespace Go.Proofs.YtlknopmpbkepjaaDoor
open Go.RowKit

/-- What the program's table of filters holds. -/
def Kinds (w : World) : Prop :=
  w.cell? ⟨1, 0, none⟩ = some (.string ⟨#[98, 111, 120]⟩) ∧ w.cell? ⟨1, 1, none⟩ = some (.int .i64 0) ∧ w.cell? ⟨1, 2, none⟩ = some (.string ⟨#[99, 117, 98, 105, 99]⟩) ∧ w.cell? ⟨1, 3, none⟩ = some (.int .i64 2) ∧ w.cell? ⟨1, 4, none⟩ = some (.string ⟨#[108, 97, 110, 99, 122, 111, 115]⟩) ∧ w.cell? ⟨1, 5, none⟩ = some (.int .i64 3)
theorem cell_ltK {w : World} {b o : Nat} {v : Value} (h : w.cell? ⟨b, o, none⟩ = some v) : b < w.heap.size := by
  by_cases g : b < w.heap.size
  · exact g
  · have e : w.heap[b]? = none := Array.getElem?_eq_none (by omega)
    simp [World.cell?, e] at h
theorem kinds_below {w w1 : World} (h : Kinds w) (b : Below w.heap.size w w1) : Kinds w1 := by
  obtain ⟨c0, c1, c2, c3, c4, c5⟩ := h
  have lc := cell_ltK c0
  exact ⟨cb b lc c0, cb b lc c1, cb b lc c2, cb b lc c3, cb b lc c4, cb b lc c5⟩
end Go.Proofs.YtlknopmpbkepjaaDoor

/- The table of filters, out of what the row lists. -/
namespace Go.Proofs.YtlknopmpbkepjaaDoor
open Go.ChangeShapes Go.WideShapes Go.ChangeAt Go.WideMaps Go.WideElems Go.RowKit

theorem gKinds : Tryd.prog.globalNamed "smalto/raw.kinds" = some 1 := by kernel_rfl
theorem tKinds : (Tryd.prog.globals[1]?).map (·.type) = some 83 := by kernel_rfl
theorem cellsKinds : Tryd.prog.cellsOf 83 = 6 := by kernel_rfl
theorem cellsKind : Tryd.prog.cellsOf 82 = 2 := by kernel_rfl
theorem cellsStrK : Tryd.prog.cellsOf 9 = 1 := by kernel_rfl
theorem cellsI64K : Tryd.prog.cellsOf 2 = 1 := by kernel_rfl
theorem string_of_bytes {s : ByteArray} {l : List UInt8} (h : s.data.toList = l) : s = ⟨l.toArray⟩ := by
  subst h; rfl
theorem kind_cells {H : Type} {enc : TypeId × Value → H} {w : World} {base : Nat} {sp : Nat → Bool} {held : Bool} {fuel : Nat} {a b : Value} {l : List UInt8} {n : Int} {y : DataW H × List MemPlace}
    (h : DataW.trod enc Tryd.prog w base sp held fuel 82 [a, b] = some y) (hy : y.1 = .agg [.lit (.string l), .lit (.int .i64 n)]) : a = .string ⟨l.toArray⟩ ∧ b = .int .i64 n := by
  obtain ⟨y0, y1, m, rfl, _, h0, h1⟩ := trod_struct2 Tryd.underlying82 h
  simp [cellsStrK, cellsI64K] at h0 h1 hy
  obtain ⟨s, e0, rfl, _⟩ := DataW.trod_string Tryd.underlying9 h0
  obtain ⟨k, e1, rfl, _⟩ := DataW.trod_int Tryd.underlying2 h1
  simp at e0 e1 hy
  obtain ⟨g0, rfl⟩ := hy
  exact ⟨by rw [e0, string_of_bytes g0], e1⟩
set_option maxRecDepth 100000 in
theorem kinds_cells {H : Type} {enc : TypeId × Value → H} {w : World} {base : Nat} {sp : Nat → Bool} {held : Bool} {fuel : Nat} {cs : Array Value} {p : List MemPlace}
    (h : DataW.trod enc Tryd.prog w base sp held fuel 83 cs.toList = some (Rows.laid_smalto_raw_kinds, p)) :
    cs = #[.string ⟨#[98, 111, 120]⟩, .int .i64 0, .string ⟨#[99, 117, 98, 105, 99]⟩, .int .i64 2, .string ⟨#[108, 97, 110, 99, 122, 111, 115]⟩, .int .i64 3] := by
  obtain ⟨l⟩ := cs
  obtain ⟨xs, m, rfl, hx, hl, hn, he⟩ := DataW.trod_array Tryd.underlying83 h
  rw [cellsKinds] at hl
  rw [cellsKind] at he
  obtain ⟨c0, c1, c2, c3, c4, c5, rfl⟩ : ∃ c0 c1 c2 c3 c4 c5, l = [c0, c1, c2, c3, c4, c5] := by
    match l, hl with
    | [a, b, c, d, e, f], _ => exact ⟨a, b, c, d, e, f, rfl⟩
  obtain ⟨y0, y1, y2, rfl⟩ : ∃ y0 y1 y2, xs = [y0, y1, y2] := by
    match xs, hn with
    | [a, b, c], _ => exact ⟨a, b, c, rfl⟩
  have h0 := he 0 (by omega)
  have h1 := he 1 (by omega)
  have h2 := he 2 (by omega)
  simp at h0 h1 h2
  simp [Rows.laid_smalto_raw_kinds] at hx
  obtain ⟨⟨g0, g1, g2⟩, _⟩ := hx
  obtain ⟨rfl, rfl⟩ := kind_cells h0 g0.symm
  obtain ⟨rfl, rfl⟩ := kind_cells h1 g1.symm
  obtain ⟨rfl, rfl⟩ := kind_cells h2 g2.symm
  rfl
end Go.Proofs.YtlknopmpbkepjaaDoor

/- Weights that come to one: plain arithmetic. -/
namespace Go.Proofs.YtlknopmpbkepjaaDoor


/-- Sums that are held at each step. -/
def plusH (a b : Int) : Int := holdI (a + b)
def absH (x : Int) : Int := holdI (absI x)
def sumH (l : List Int) : Int := l.foldl plusH 0
def sizeH (l : List Int) : Int := l.foldl (fun s x => plusH s (absH x)) 0
/-- First each has so much, and a rest. -/
def quotW (s x : Int) : Int := floorF (x * 16384) s
def restW (s x : Int) : Int := x * 16384 - quotW s x * s
def quotsW (s : Int) (l : List Int) : List Int := l.map (quotW s)
def restsW (s : Int) (l : List Int) : List Int := l.map (restW s)
/-- The place of the greatest rest among the first ones, the one ahead of equal ones. -/
def bestTo (r : List Int) : Nat → Nat
  | 0 => 0
  | k + 1 => if r.getD (bestTo r k) 0 < r.getD k 0 then k else bestTo r k
/-- What lacks is given, one each. -/
def giveN (o r : List Int) : Nat → List Int × List Int
  | 0 => (o, r)
  | m + 1 => ((giveN o r m).1.set (bestTo (giveN o r m).2 (giveN o r m).2.length) ((giveN o r m).1.getD (bestTo (giveN o r m).2 (giveN o r m).2.length) 0 + 1), (giveN o r m).2.set (bestTo (giveN o r m).2 (giveN o r m).2.length) (-1))
def leftW (s : Int) (l : List Int) : Int := 16384 - (quotsW s l).sum
def appR (l : List Int) : List Int := (giveN (quotsW (sumH l) l) (restsW (sumH l) l) (leftW (sumH l) l).toNat).1
end Go.Proofs.YtlknopmpbkepjaaDoor
