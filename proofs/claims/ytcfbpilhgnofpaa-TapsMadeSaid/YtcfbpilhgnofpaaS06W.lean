/- Weights that come to one: the laws. -/
import Derived.Test.YtcfbpilhgnofpaaS06V
import Derived.Test.YtcfbpilhgnofpaaS06H
import Derived.Test.YtcfbpilhgnofpaaS06J
import Derived.Test.YtcfbpilhgnofpaaS06K
import Derived.Test.YtcfbpilhgnofpaaS06M
import Derived.Test.YtcfbpilhgnofpaaS06O
namespace Go.Proofs.Ytcfbpilhgnofpaa
open Go.RowKit

theorem law_TapsScaled (xs : List Int) (ad : Option Addr) (cap : Nat) (b : Int) (w : World) (hr : RowAt .i64 w ad xs) (hx : AllK .i64 xs) (hl : xs.length ≤ maxLen) (_hz : ad = none → cap = 0) (hb : 0 ≤ b ∧ b ≤ 255) :
    Calls Try.prog 3 #[.slice ad xs.length cap, .int .u8 b] w fun e w' => e = .returned (.bool true) ∧ Below w.heap.size w w' :=
  of_TapsScaled (K := fun _ => True) all_true app_c gau_c xs ad cap b w trivial hr hx hl _hz hb
theorem law_TapsApportion (xs : List Int) (ad : Option Addr) (cap : Nat) (w : World) (hr : RowAt .i64 w ad xs) (hx : AllK .i64 xs) (hl : xs.length ≤ maxLen) (hz : ad = none → cap = 0) :
    Calls Try.prog 4 #[.slice ad xs.length cap] w fun e w' => e = .returned (.bool true) ∧ Below w.heap.size w w' :=
  of_TapsApportion (K := fun _ => True) all_true app_c gau_c sum_c size_c xs ad cap w trivial hr hx hl hz
theorem law_TapsSum (xs : List Int) (ad : Option Addr) (cap : Nat) (w : World) (hr : RowAt .i64 w ad xs) (hx : AllK .i64 xs) (hl : xs.length ≤ maxLen) (_hz : ad = none → cap = 0) :
    Calls Try.prog 5 #[.slice ad xs.length cap] w fun e w' => e = .returned (.bool true) ∧ Below w.heap.size w w' :=
  of_TapsSum (K := fun _ => True) all_true app_c gau_c xs ad cap w trivial hr hx hl _hz
theorem law_TapsUser (xs : List Int) (ad : Option Addr) (cap : Nat) (w : World) (hr : RowAt .i64 w ad xs) (hx : AllK .i64 xs) (hl : xs.length ≤ maxLen) (hz : ad = none → cap = 0) :
    Calls Try.prog 6 #[.slice ad xs.length cap] w fun e w' => e = .returned (.bool true) ∧ Below w.heap.size w w' :=
  of_TapsUser (K := fun _ => True) all_true app_c gau_c user_c xs ad cap w trivial hr hx hl hz
theorem law_TapsMade (s r : Int) (w : World) (hs : -9223372036854775808 ≤ s ∧ s ≤ 9223372036854775807) (hr : -9223372036854775808 ≤ r ∧ r ≤ 9223372036854775807) :
    Calls Try.prog 7 #[.int .i64 s, .int .i64 r] w fun e w' => e = .returned (.bool true) ∧ Below w.heap.size w w' :=
  of_TapsMade (K := fun _ => True) all_true app_c gau_c blur_c s r w trivial hs hr
theorem law_TapsEven (xs : List Int) (ad : Option Addr) (cap : Nat) (c : Int) (w : World) (hr : RowAt .i32 w ad xs) (hx : AllK .i32 xs) (hl : xs.length ≤ maxLen) (_hz : ad = none → cap = 0) (hc : -2147483648 ≤ c ∧ c ≤ 2147483647) :
    Calls Try.prog 8 #[.slice ad xs.length cap, .int .i32 c] w fun e w' => e = .returned (.bool true) ∧ Below w.heap.size w w' :=
  of_TapsEven (K := fun _ => True) all_true app_c gau_c user_c size_c xs ad cap c w trivial hr hx hl _hz hc
end Go.Proofs.Ytcfbpilhgnofpaa
