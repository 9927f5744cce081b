/- Parts, joined. -/
import Derived.Test.YtlknopmpbkepjaaDoorProg
import Derived.Test.YtlknopmpbkepjaaDoorRows
import Derived.WalkKit
import Derived.WalkSpells
import Derived.WalkLawsBesides
import Derived.Laws.Bits64b
import Derived.Deep.RegionHeld3
import Derived.Deep.DeepCutAuto
import Derived.Lib.BitFns
import Derived.Laws.FloatArith
import Derived.RowKit
import Derived.IntWalk
import Derived.Deep.QuietTactic
import Derived.BigQuiet
import Derived.Shelf.Bits.Mul64
import Derived.Laws.Externs
import Derived.Shelf.Spec.BitsCarry
import Derived.Shelf.Small.Bits
import Derived.Deep.CutBlock
import Derived.OwnWalk
import Derived.ProofKit
import Derived.LaidMore
import Derived.OpenShut
/- Plain arithmetic for this seat: quotients, numbers of 128 bits as two halves. No program text in sight. -/
namespace Go.Proofs.YtlknopmpbkepjaaDoor


/-- The halves of a number of 128 bits. -/
def hi (x : Int) : Int := x / 18446744073709551616
def lo (x : Int) : Int := x % 18446744073709551616
theorem hl (x : Int) : hi x * 18446744073709551616 + lo x = x := by unfold hi lo; omega
theorem div_of {a b q r : Int} (e : a = b * q + r) (h0 : 0 ≤ r) (h1 : r < b) : a / b = q :=
  ((Int.ediv_emod_unique (Int.lt_of_le_of_lt h0 h1)).2 ⟨by rw [e, Int.add_comm], h0, h1⟩).1
theorem mod_of {a b q r : Int} (e : a = b * q + r) (h0 : 0 ≤ r) (h1 : r < b) : a % b = r :=
  ((Int.ediv_emod_unique (Int.lt_of_le_of_lt h0 h1)).2 ⟨by rw [e, Int.add_comm], h0, h1⟩).2
theorem pow2_pos (i : Nat) : (0 : Int) < 2 ^ i := Int.pow_pos (by decide)
end Go.Proofs.YtlknopmpbkepjaaDoor

/- Plain arithmetic for this seat: quotients of numbers with signs, cut, downwards and to the nearest. No program text in sight. -/
namespace Go.Proofs.YtlknopmpbkepjaaDoor

theorem rest_in {x d : Int} (hd : 0 < d) : 0 ≤ x % d ∧ x % d < d := ⟨Int.emod_nonneg x (Int.ne_of_gt hd), Int.emod_lt_of_pos x hd⟩
end Go.Proofs.YtlknopmpbkepjaaDoor

/- What the small calls of the document's answers (layer 1) do to the world: numbers of 128 bits. -/
namespace Go.Proofs.YtlknopmpbkepjaaDoor
open Go.RowKit


theorem hide {p : Prop} (h : p) : Hid p := h
theorem below1 (w : World) (o : Obj) : Below w.heap.size w (w.alloc o) := (Below.refl _ _).alloc (Nat.le_refl _) _
theorem ret_i64 {a b : Int} (h : a = b) : Ending.returned (.int .i64 a) = .returned (.int .i64 b) := by rw [h]
theorem ret_bool {a b : Bool} (h : a = b) : Ending.returned (.bool a) = .returned (.bool b) := by rw [h]
end Go.Proofs.YtlknopmpbkepjaaDoor

/- Plain arithmetic for this seat: long numbers of 128 bits with a sign, going round. No program text in sight. -/
namespace Go.Proofs.YtlknopmpbkepjaaDoor

/-- Two numbers that share no bit, put together. -/
theorem or_apart (a b : Int) (k : Nat) (a0 : 0 ≤ a) (a1 : a * 2 ^ k < 18446744073709551616) (b0 : 0 ≤ b) (b1 : b < 2 ^ k) (b2 : b < 18446744073709551616) : bits .or .u64 (a * 2 ^ k) b = a * 2 ^ k + b := by
  obtain ⟨a, rfl⟩ := Int.eq_ofNat_of_zero_le a0
  obtain ⟨b, rfl⟩ := Int.eq_ofNat_of_zero_le b0
  have hk : (2 : Int) ^ k = ((2 ^ k : Nat) : Int) := by simp
  rw [hk] at a1 b1 ⊢
  have e : (a : Int) * ((2 ^ k : Nat) : Int) = ((a * 2 ^ k : Nat) : Int) := by simp
  rw [e] at a1 ⊢
  rw [bits_or_u64_nat _ _ (by omega) (by omega)]
  have h := Nat.two_pow_add_eq_or_of_lt (show b < 2 ^ k by omega) a
  rw [Nat.mul_comm a]
  omega
theorem pow_split {n : Nat} (h : n ≤ 64) : (18446744073709551616 : Int) = 2 ^ n * 2 ^ (64 - n) := by
  have h2 : (18446744073709551616 : Int) = 2 ^ (n + (64 - n)) := by
    have : n + (64 - n) = 64 := by omega
    rw [this]; rfl
  rw [h2, Int.pow_add]
end Go.Proofs.YtlknopmpbkepjaaDoor

/- Long products and quotients of the document's answers (layer 1): their loops. -/
namespace Go.Proofs.YtlknopmpbkepjaaDoor
open Go.RowKit

theorem cb {W w1 : World} {b o : Nat} {v : Value} (hb : Below W.heap.size W w1) (h : b < W.heap.size) (hc : W.cell? ⟨b, o, none⟩ = some v) : w1.cell? ⟨b, o, none⟩ = some v := (hb.cell (p := ⟨b, o, none⟩) h).trans hc
theorem fb {W w1 : World} {b o : Nat} (hb : Below W.heap.size W w1) (h : b < W.heap.size) (hc : W.frozen? ⟨b, o, none⟩ = false) : w1.frozen? ⟨b, o, none⟩ = false := (hb.frozen (p := ⟨b, o, none⟩) h).trans hc
theorem cs {w : World} {b o b' o' : Nat} {v u : Value} (h : b' ≠ b ∨ o' ≠ o) (hc : w.cell? ⟨b, o, none⟩ = some v) : (w.setCell ⟨b', o', none⟩ u).cell? ⟨b, o, none⟩ = some v := by
  have hne : (⟨b', o', none⟩ : Addr) ≠ ⟨b, o, none⟩ := by
    intro e
    injection e with e1 e2
    omega
  exact (World.cell?_setCell_other _ _ _ _ hne).trans hc
end Go.Proofs.YtlknopmpbkepjaaDoor

/- The rounded quotients of the document's answers (layer 1). -/
namespace Go.Proofs.YtlknopmpbkepjaaDoor
open Go.RowKit


theorem bt {a w w1 : World} (h : Below a.heap.size a w) (b : Below w.heap.size w w1) : Below a.heap.size a w1 := h.trans (b.mono h.size)
theorem ba {a w : World} (h : Below a.heap.size a w) (o : Obj) : Below a.heap.size a (w.alloc o) := h.alloc h.size o
theorem bs {a w : World} {b o : Nat} (h : Below a.heap.size a w) (hp : a.heap.size ≤ b) (u : Value) : Below a.heap.size a (w.setCell ⟨b, o, none⟩ u) := h.setCell (p := ⟨b, o, none⟩) hp u
theorem bd {a w : World} (h : Below a.heap.size a w) : Below a.heap.size a w.drew := h.drew
theorem ca {w : World} {b o : Nat} {v : Value} {ob : Obj} (h : b < w.heap.size) (hc : w.cell? ⟨b, o, none⟩ = some v) : (w.alloc ob).cell? ⟨b, o, none⟩ = some v := (World.cell?_alloc_past ob b o h).trans hc
end Go.Proofs.YtlknopmpbkepjaaDoor

/- Plain arithmetic for this seat: one digit of a long quotient. No program text in sight. -/
namespace Go.Proofs.YtlknopmpbkepjaaDoor


/-- What a digit's search stands on: the divisor's two halves, what is left so far, the next half. -/
structure DigC (a c U v : Int) : Prop where
  a0 : 2147483648 ≤ a
  a1 : a < 4294967296
  c0 : 0 ≤ c
  c1 : c < 4294967296
  u0 : 0 ≤ U
  u1 : U < a * 4294967296 + c
  v0 : 0 ≤ v
  v1 : v < 4294967296
end Go.Proofs.YtlknopmpbkepjaaDoor

/- Plain arithmetic for this seat: the parts of a long quotient by two digits. No program text in sight. -/
namespace Go.Proofs.YtlknopmpbkepjaaDoor

theorem mask32 {x : Int} (h0 : 0 ≤ x) (h1 : x < 18446744073709551616) : bits .and .u64 x 4294967295 = x % 4294967296 := by
  obtain ⟨a, rfl⟩ := Int.eq_ofNat_of_zero_le h0
  have h := bits_and_u64_nat a 4294967295 (by omega) (by omega)
  have e : a &&& 4294967295 = a % 4294967296 := Nat.and_two_pow_sub_one_eq_mod a 32
  rw [e] at h
  exact h.trans (by omega)
structure Parts (h l d : Int) (s : Nat) (Y a c U t v v0 : Int) : Prop where
  eY : IntKind.u64.wrap (d * 2 ^ s) = Y
  ea : Y / 4294967296 = a
  ec : bits .and .u64 Y 4294967295 = c
  eU : bits .or .u64 (IntKind.u64.wrap (h * 2 ^ s)) (l / 2 ^ (64 - s)) = U
  et : IntKind.u64.wrap (l * 2 ^ s) = t
  ev : t / 4294967296 = v
  ev0 : bits .and .u64 t 4294967295 = v0
  C : DigC a c U v
  ys : Y = a * 4294967296 + c
  y1 : Y < 18446744073709551616
  u1 : U < 18446744073709551616
  t0 : 0 ≤ t
  w0 : 0 ≤ v0
  w1 : v0 < 4294967296
  fin : ∀ q1 q0 R1 R0 : Int, Y * q1 + R1 = U * 4294967296 + v → Y * q0 + R0 = R1 * 4294967296 + v0 → 0 ≤ R0 → R0 < Y →
    q1 * 4294967296 + q0 = (h * 18446744073709551616 + l) / d ∧ R0 / 2 ^ s = (h * 18446744073709551616 + l) % d
theorem parts_any {h l d : Int} {s : Nat} (h0 : 0 ≤ h) (hd : h < d) (l0 : 0 ≤ l) (l1 : l < 18446744073709551616) (s1 : s ≤ 63) (n0 : 9223372036854775808 ≤ d * 2 ^ s) (n1 : d * 2 ^ s < 18446744073709551616) :
    ∃ Y a c U t v v0 : Int, Parts h l d s Y a c U t v v0 := by
  have p := pow2_pos s
  have pq := pow2_pos (64 - s)
  have e64 := pow_split (n := s) (by omega)
  have hm : (h + 1) * 2 ^ s ≤ d * 2 ^ s := Int.mul_le_mul_of_nonneg_right (by omega) (Int.le_of_lt p)
  rw [Int.add_mul, Int.one_mul] at hm
  have h2 := Int.mul_nonneg h0 (Int.le_of_lt p)
  have b0 : 0 ≤ l / 2 ^ (64 - s) := Int.ediv_nonneg l0 (Int.le_of_lt pq)
  have b1 : l / 2 ^ (64 - s) < 2 ^ s := Int.ediv_lt_of_lt_mul pq (by rw [← e64]; exact l1)
  have b2 : l / 2 ^ (64 - s) < 18446744073709551616 := Int.lt_of_le_of_lt (Int.ediv_le_self _ l0) l1
  have eU := or_apart h (l / 2 ^ (64 - s)) s h0 (by omega) b0 b1 b2
  have wh : IntKind.u64.wrap (h * 2 ^ s) = h * 2 ^ s := by rw [IntKind.wrap_u64]; omega
  have wd : IntKind.u64.wrap (d * 2 ^ s) = d * 2 ^ s := by rw [IntKind.wrap_u64]; omega
  -- what is left of l
  have el : l * 2 ^ s = 18446744073709551616 * (l / 2 ^ (64 - s)) + (l % 2 ^ (64 - s)) * 2 ^ s := by
    have e := Int.mul_ediv_add_emod l (2 ^ (64 - s))
    conv => lhs; rw [← e]
    rw [Int.add_mul, e64, Int.mul_right_comm, Int.mul_comm (2 ^ (64 - s)) (2 ^ s)]
  have m := rest_in (x := l) pq
  have m1 : (l % 2 ^ (64 - s) + 1) * 2 ^ s ≤ 18446744073709551616 := by
    rw [e64, Int.mul_comm (2 ^ s)]; exact Int.mul_le_mul_of_nonneg_right (by omega) (Int.le_of_lt p)
  rw [Int.add_mul, Int.one_mul] at m1
  have m0 := Int.mul_nonneg m.1 (Int.le_of_lt p)
  have wt : IntKind.u64.wrap (l * 2 ^ s) = (l % 2 ^ (64 - s)) * 2 ^ s := by
    rw [IntKind.wrap_u64]; exact mod_of el m0 (by omega)
  refine ⟨_, _, _, h * 2 ^ s + l / 2 ^ (64 - s), _, _, _, ⟨wd, rfl, mask32 (by omega) n1, by rw [wh]; exact eU, wt, rfl, mask32 m0 (by omega), ⟨by omega, by omega, by omega, by omega, by omega, by omega, by omega, by omega⟩, by omega, n1, by omega, m0, by omega, by omega, ?_⟩⟩
  intro q1 q0 R1 R0 e1 e2 r0 r1
  have total : (h * 18446744073709551616 + l) * 2 ^ s = (d * 2 ^ s) * (q1 * 4294967296 + q0) + R0 := by
    have x1 : (h * 18446744073709551616 + l) * 2 ^ s = h * 2 ^ s * 18446744073709551616 + l * 2 ^ s := by
      rw [Int.add_mul, Int.mul_right_comm]
    have x2 : (d * 2 ^ s) * (q1 * 4294967296 + q0) = (d * 2 ^ s) * q1 * 4294967296 + (d * 2 ^ s) * q0 := by
      rw [Int.mul_add, Int.mul_assoc (d * 2 ^ s) q1]
    rw [x1, x2, el]
    generalize l % 2 ^ (64 - s) * 2 ^ s = t at *
    generalize (d * 2 ^ s) * q1 = Yq1 at *
    generalize (d * 2 ^ s) * q0 = Yq0 at *
    omega
  have tq : (h * 18446744073709551616 + l) = d * (q1 * 4294967296 + q0) + R0 / 2 ^ s := by
    have k1 : R0 = 2 ^ s * ((h * 18446744073709551616 + l) - d * (q1 * 4294967296 + q0)) := by
      rw [Int.mul_sub, Int.mul_comm (2 ^ s), total, ← Int.mul_assoc, Int.mul_comm (2 ^ s) d]
      omega
    have k2 : R0 / 2 ^ s = (h * 18446744073709551616 + l) - d * (q1 * 4294967296 + q0) := by
      conv => lhs; rw [k1]
      exact Int.mul_ediv_cancel_left _ (Int.ne_of_gt p)
    omega
  have z0 : 0 ≤ R0 / 2 ^ s := Int.ediv_nonneg r0 (Int.le_of_lt p)
  have z1 : R0 / 2 ^ s < d := Int.ediv_lt_of_lt_mul p r1
  exact ⟨(div_of tq z0 z1).symm, (mod_of tq z0 z1).symm⟩
end Go.Proofs.YtlknopmpbkepjaaDoor

/- What each source sample weighs: the laws on rows, out of what the program's own calls answer. -/
namespace Go.Proofs.YtlknopmpbkepjaaDoor
open Go.RowKit

/-- What the program's table of filters holds. -/
def Kinds (w : World) : Prop :=
  w.cell? ⟨1, 0, none⟩ = some (.string ⟨#[98, 111, 120]⟩) ∧ w.cell? ⟨1, 1, none⟩ = some (.int .i64 0) ∧ w.cell? ⟨1, 2, none⟩ = some (.string ⟨#[99, 117, 98, 105, 99]⟩) ∧ w.cell? ⟨1, 3, none⟩ = some (.int .i64 2) ∧ w.cell? ⟨1, 4, none⟩ = some (.string ⟨#[108, 97, 110, 99, 122, 111, 115]⟩) ∧ w.cell? ⟨1, 5, none⟩ = some (.int .i64 3)
theorem cell_ltK {w : World} {b o : Nat} {v : Value} (h : w.cell? ⟨b, o, none⟩ = some v) : b < w.heap.size := by
  by_cases g : b < w.heap.size
  · exact g
  · have e : w.heap[b]? = none := Array.getElem?_eq_none (by omega)
    simp [World.cell?, e] at h
theorem kinds_below {w w1 : World} (h : Kinds w) (b : Below w.heap.size w w1) : Kinds w1 := by
  obtain ⟨c0, c1, c2, c3, c4, c5⟩ := h
  have lc := cell_ltK c0
  exact ⟨cb b lc c0, cb b lc c1, cb b lc c2, cb b lc c3, cb b lc c4, cb b lc c5⟩
end Go.Proofs.YtlknopmpbkepjaaDoor

/- The table of filters, out of what the row lists. -/
namespace Go.Proofs.YtlknopmpbkepjaaDoor
open Go.ChangeShapes Go.WideShapes Go.ChangeAt Go.WideMaps Go.WideElems Go.RowKit

theorem gKinds : Tryd.prog.globalNamed "smalto/raw.kinds" = some 1 := by kernel_rfl
theorem tKinds : (Tryd.prog.globals[1]?).map (·.type) = some 83 := by kernel_rfl
theorem cellsKinds : Tryd.prog.cellsOf 83 = 6 := by kernel_rfl
theorem cellsKind : Tryd.prog.cellsOf 82 = 2 := by kernel_rfl
theorem cellsStrK : Tryd.prog.cellsOf 9 = 1 := by kernel_rfl
theorem cellsI64K : Tryd.prog.cellsOf 2 = 1 := by kernel_rfl
theorem string_of_bytes {s : ByteArray} {l : List UInt8} (h : s.data.toList = l) : s = ⟨l.toArray⟩ := by
  subst h; rfl
theorem kind_cells {H : Type} {enc : TypeId × Value → H} {w : World} {base : Nat} {sp : Nat → Bool} {held : Bool} {fuel : Nat} {a b : Value} {l : List UInt8} {n : Int} {y : DataW H × List MemPlace}
    (h : DataW.trod enc Tryd.prog w base sp held fuel 82 [a, b] = some y) (hy : y.1 = .agg [.lit (.string l), .lit (.int .i64 n)]) : a = .string ⟨l.toArray⟩ ∧ b = .int .i64 n := by
  obtain ⟨y0, y1, m, rfl, _, h0, h1⟩ := trod_struct2 Tryd.underlying82 h
  simp [cellsStrK, cellsI64K] at h0 h1 hy
  obtain ⟨s, e0, rfl, _⟩ := DataW.trod_string Tryd.underlying9 h0
  obtain ⟨k, e1, rfl, _⟩ := DataW.trod_int Tryd.underlying2 h1
  simp at e0 e1 hy
  obtain ⟨g0, rfl⟩ := hy
  exact ⟨by rw [e0, string_of_bytes g0], e1⟩
set_option maxRecDepth 100000 in
theorem kinds_cells {H : Type} {enc : TypeId × Value → H} {w : World} {base : Nat} {sp : Nat → Bool} {held : Bool} {fuel : Nat} {cs : Array Value} {p : List MemPlace}
    (h : DataW.trod enc Tryd.prog w base sp held fuel 83 cs.toList = some (Rows.laid_smalto_raw_kinds, p)) :
    cs = #[.string ⟨#[98, 111, 120]⟩, .int .i64 0, .string ⟨#[99, 117, 98, 105, 99]⟩, .int .i64 2, .string ⟨#[108, 97, 110, 99, 122, 111, 115]⟩, .int .i64 3] := by
  obtain ⟨l⟩ := cs
  obtain ⟨xs, m, rfl, hx, hl, hn, he⟩ := DataW.trod_array Tryd.underlying83 h
  rw [cellsKinds] at hl
  rw [cellsKind] at he
  obtain ⟨c0, c1, c2, c3, c4, c5, rfl⟩ : ∃ c0 c1 c2 c3 c4 c5, l = [c0, c1, c2, c3, c4, c5] := by
    match l, hl with
    | [a, b, c, d, e, f], _ => exact ⟨a, b, c, d, e, f, rfl⟩
  obtain ⟨y0, y1, y2, rfl⟩ : ∃ y0 y1 y2, xs = [y0, y1, y2] := by
    match xs, hn with
    | [a, b, c], _ => exact ⟨a, b, c, rfl⟩
  have h0 := he 0 (by omega)
  have h1 := he 1 (by omega)
  have h2 := he 2 (by omega)
  simp at h0 h1 h2
  simp [Rows.laid_smalto_raw_kinds] at hx
  obtain ⟨⟨g0, g1, g2⟩, _⟩ := hx
  obtain ⟨rfl, rfl⟩ := kind_cells h0 g0.symm
  obtain ⟨rfl, rfl⟩ := kind_cells h1 g1.symm
  obtain ⟨rfl, rfl⟩ := kind_cells h2 g2.symm
  rfl
end Go.Proofs.YtlknopmpbkepjaaDoor
