/- Products: the program's, held, and the document's, of 128 bits. -/
import Derived.Test.YthakcpjlnopcfaaDoorD
import Derived.Shelf.Bits.Mul64
namespace Go.Proofs.YthakcpjlnopcfaaDoor
open Go.RowKit


/-! ### The library's long product, by the shelf's contract, laid here -/
def lays264r : Go.Shelf.Ren := ⟨fun | 264 => 33 | n => n, fun | 53 => 30 | 46 => 55 | n => n, fun | n => n⟩
theorem lays264 : Go.Proofs.Lays.n264 Tryd.prog lays264r := {
  mixed := by kernel_rfl
  f264 := Tryd.func33.trans (congrArg some (by kernel_rfl))
  t46 := Tryd.underlying55
  a46 := Tryd.isAgg55
  z46 := Tryd.sizeOf55
  v46 := Tryd.zeroValue55
  t53 := Tryd.underlying30
  a53 := Tryd.isAgg30
  z53 := Tryd.sizeOf30
  v53 := Tryd.zeroValue30 }
theorem mul64_any (x y : Nat) (hx : x < 18446744073709551616) (hy : y < 18446744073709551616) (w : World) :
    Calls Tryd.prog 33 #[.int .u64 x, .int .u64 y] w fun e w' => e = .returned (.tuple #[.int .u64 ((x * y / 18446744073709551616 : Nat) : Int), .int .u64 ((x * y % 18446744073709551616 : Nat) : Int)]) ∧ w = w' :=
  (Any.bits_Mul64 lays264 x y hx hy w).mono fun _ _ ⟨he, hw⟩ => ⟨he, hw.symm⟩
end Go.Proofs.YthakcpjlnopcfaaDoor
