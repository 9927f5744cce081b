/- The laws of stage 5, where the program's table of filters holds what its text lays. -/
import Derived.Test.YtjmdknbbgmajoaaDoorS05L
import Derived.Test.YtjmdknbbgmajoaaDoorS05J
import Derived.Test.YtjmdknbbgmajoaaDoorS05C
namespace Go.Proofs.YtjmdknbbgmajoaaDoor
open Go.RowKit

theorem keysC : KeysC := fun a b h0 h1 w => keys_any a b h0 h1 w
theorem law_RawRows (f n m i j : Int) (w : World) (hk : Kinds w) (hf : -9223372036854775808 ≤ f ∧ f ≤ 9223372036854775807) (hn : -9223372036854775808 ≤ n ∧ n ≤ 9223372036854775807) (hm : -9223372036854775808 ≤ m ∧ m ≤ 9223372036854775807) (hi : -9223372036854775808 ≤ i ∧ i ≤ 9223372036854775807) (hj : -9223372036854775808 ≤ j ∧ j ≤ 9223372036854775807) :
    Calls Tryd.prog 3 #[.int .i64 f, .int .i64 n, .int .i64 m, .int .i64 i, .int .i64 j] w fun e w' => e = .returned (.bool true) ∧ Below w.heap.size w w' :=
  of_RawRows f n m i j w hk hf hn hm hi hj row_yes row_no win_yes win_no weight_any keysC
theorem law_RawBox (a b c : Int) (w : World) (hk : Kinds w) (ha : 0 ≤ a ∧ a ≤ 4294967295) (hb : 0 ≤ b ∧ b ≤ 4294967295) (hc : 0 ≤ c ∧ c ≤ 4294967295) :
    Calls Tryd.prog 4 #[.int .u32 a, .int .u32 b, .int .u32 c] w fun e w' => e = .returned (.bool true) ∧ Below w.heap.size w w' :=
  of_RawBox a b c ha hb hc row_yes keysC w hk
theorem law_RawKeys (p q : Int) (w : World) (hk : Kinds w) (hp : -9223372036854775808 ≤ p ∧ p ≤ 9223372036854775807) (hq : -9223372036854775808 ≤ q ∧ q ≤ 9223372036854775807) :
    Calls Tryd.prog 5 #[.int .i64 p, .int .i64 q] w fun e w' => e = .returned (.bool true) ∧ Below w.heap.size w w' :=
  of_RawKeys p q w hp hq (rlives row_yes keysC w hk) keysC
theorem law_RawMirror (f a b c : Int) (w : World) (hk : Kinds w) (hf : 0 ≤ f ∧ f ≤ 255) (ha : 0 ≤ a ∧ a ≤ 4294967295) (hb : 0 ≤ b ∧ b ≤ 4294967295) (hc : 0 ≤ c ∧ c ≤ 4294967295) :
    Calls Tryd.prog 6 #[.int .u8 f, .int .u32 a, .int .u32 b, .int .u32 c] w fun e w' => e = .returned (.bool true) ∧ Below w.heap.size w w' :=
  of_RawMirror f a b c hf ha hb hc row_yes keysC w hk
theorem law_RawNames (f : Int) (w : World) (hk : Kinds w) (hf : -9223372036854775808 ≤ f ∧ f ≤ 9223372036854775807) :
    Calls Tryd.prog 7 #[.int .i64 f] w fun e w' => e = .returned (.bool true) ∧ Below w.heap.size w w' :=
  of_RawNames f hf row_yes keysC name_any w hk
end Go.Proofs.YtjmdknbbgmajoaaDoor
