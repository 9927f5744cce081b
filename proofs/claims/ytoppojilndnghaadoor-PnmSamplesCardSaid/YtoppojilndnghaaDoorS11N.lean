/- Images as bytes: the laws, upon the program's heads. -/
import Derived.Test.YtoppojilndnghaaDoorS11L
import Derived.Test.YtoppojilndnghaaDoorS11M
import Derived.Test.YtoppojilndnghaaDoorS10S
namespace Go.Proofs.YtoppojilndnghaaDoor
open Go.RowKit


theorem of_PnmBack {K : World → Prop} (hKB : KB K) (CP : HParseC K) (CT : HTextC K) (a b c t : Int) (xs : List Int) (ad : Option Addr) (cap : Nat) (ys : List Int) (ad2 : Option Addr) (cap2 : Nat) (w : World) (hk : K w) (a0 : 0 ≤ a) (b0 : 0 ≤ b) (c0 : 0 ≤ c) (t0 : 0 ≤ t) (t1 : t ≤ 65535) (hr : RowAt .u16 w ad xs) (hx : ∀ x ∈ xs, 0 ≤ x ∧ x ≤ 65535) (hl : xs.length ≤ maxLen)
    (hr2 : RowAt .u8 w ad2 ys) (hy : AllK .u8 ys) (hl2 : ys.length ≤ maxLen) (hz2 : ad2 = none → cap2 = 0) :
    Calls Tryd.prog 4 #[.int .u16 a, .int .u16 b, .int .u16 c, .int .u16 t, .slice ad xs.length cap, .slice ad2 ys.length cap2] w fun e w' => e = .returned (.bool true) ∧ Below w.heap.size w w' := by
  by_cases h : ys.length ≤ 100
  · exact back_main hKB CP CT a b c t xs ad cap ys _ rfl h ad2 cap2 w hk a0 b0 c0 t0 t1 hr hx hl hr2 (fun x hx' => by simpa [Lit.wf, IntKind.min, IntKind.max, IntKind.signed, IntKind.bits] using hy x hx') hz2
  · have hl3 : ys.length ≤ 9223372036854775807 := hl2
    have CL := fun w hk => plives hKB CP CT w hk
    have hKB : ∀ w w', K w → Below w.heap.size w w' → K w' := hKB
    generalize ys.length = n at *
    generalize xs.length = nl at *
    clear hr hx hl hr2 hy hl2 hz2 CP CT
    go_enter Tryd.func4, Tryd.ntmps4
    go_wp2_with (first
      | (go_at_call 8; (with_reducible refine (CL w hk).mono ?_); rintro e w1 ⟨rfl, b1⟩)
      | (go_at_call 8; (with_reducible refine (CL w1 (hKB _ _ hk b1)).mono ?_); rintro e w2 ⟨rfl, b2⟩))
    go_ret
    exact ⟨rfl, bt b1 b2⟩
theorem law_PnmDecodes (xs : List Int) (ad : Option Addr) (cap : Nat) (w : World) (hk : Pow10 w) (hr : RowAt .u8 w ad xs) (hx : AllK .u8 xs) (hl : xs.length ≤ maxLen) (hz : ad = none → cap = 0) :
    Calls Tryd.prog 3 #[.slice ad xs.length cap] w fun e w' => e = .returned (.bool true) ∧ Below w.heap.size w w' :=
  of_PnmDecodes pow10_below (hparse_k Pow10) htext_any xs ad cap w hk hr hx hl hz
theorem law_PnmBack (a b c t : Int) (xs : List Int) (ad : Option Addr) (cap : Nat) (ys : List Int) (ad2 : Option Addr) (cap2 : Nat) (w : World) (hk : Pow10 w) (ha : 0 ≤ a ∧ a ≤ 65535) (hb : 0 ≤ b ∧ b ≤ 65535) (hc : 0 ≤ c ∧ c ≤ 65535) (ht : 0 ≤ t ∧ t ≤ 65535) (hr : RowAt .u16 w ad xs) (hx : AllK .u16 xs) (hl : xs.length ≤ maxLen) (_ : ad = none → cap = 0)
    (hr2 : RowAt .u8 w ad2 ys) (hy : AllK .u8 ys) (hl2 : ys.length ≤ maxLen) (hz2 : ad2 = none → cap2 = 0) :
    Calls Tryd.prog 4 #[.int .u16 a, .int .u16 b, .int .u16 c, .int .u16 t, .slice ad xs.length cap, .slice ad2 ys.length cap2] w fun e w' => e = .returned (.bool true) ∧ Below w.heap.size w w' :=
  of_PnmBack pow10_below (hparse_k Pow10) htext_any a b c t xs ad cap ys ad2 cap2 w hk ha.1 hb.1 hc.1 ht.1 ht.2 hr (allU hx) hl hr2 hy hl2 hz2
theorem law_PnmCuts (a b c t : Int) (xs : List Int) (ad : Option Addr) (cap : Nat) (u : Int) (w : World) (hk : Pow10 w) (ha : 0 ≤ a ∧ a ≤ 65535) (hb : 0 ≤ b ∧ b ≤ 65535) (hc : 0 ≤ c ∧ c ≤ 65535) (ht : 0 ≤ t ∧ t ≤ 65535) (hr : RowAt .u16 w ad xs) (hx : AllK .u16 xs) (hl : xs.length ≤ maxLen) (_ : ad = none → cap = 0) (hu : 0 ≤ u ∧ u ≤ 65535) :
    Calls Tryd.prog 5 #[.int .u16 a, .int .u16 b, .int .u16 c, .int .u16 t, .slice ad xs.length cap, .int .u16 u] w fun e w' => e = .returned (.bool true) ∧ Below w.heap.size w w' :=
  cuts_main pow10_below (hparse_k Pow10) htext_any a b c t xs ad cap u w hk ha.1 hb.1 hc.1 ht.1 ht.2 hu.1 hu.2 hr (allU hx) hl
theorem law_PnmSamples (a b c : Int) (xs : List Int) (ad : Option Addr) (cap : Nat) (u : Int) (w : World) (hk : Pow10 w) (ha : 0 ≤ a ∧ a ≤ 65535) (hb : 0 ≤ b ∧ b ≤ 65535) (hc : 0 ≤ c ∧ c ≤ 65535) (hr : RowAt .u16 w ad xs) (hx : AllK .u16 xs) (hl : xs.length ≤ maxLen) (_ : ad = none → cap = 0) (hu : 0 ≤ u ∧ u ≤ 65535) :
    Calls Tryd.prog 6 #[.int .u16 a, .int .u16 b, .int .u16 c, .slice ad xs.length cap, .int .u16 u] w fun e w' => e = .returned (.bool true) ∧ Below w.heap.size w w' :=
  samples_main pow10_below (hparse_k Pow10) htext_any a b c xs ad cap u w hk ha.1 hb.1 hc.1 hu.1 hu.2 hr (allU hx) hl
theorem law_PnmSizes (x : Hd) (w : World) (hk : Pow10 w) (_ : HdWf x) :
    Calls Tryd.prog 7 #[hdV x] w fun e w' => e = .returned (.bool true) ∧ Below w.heap.size w w' :=
  of_PnmSizes pow10_below (hparse_k Pow10) htext_any x w hk
end Go.Proofs.YtoppojilndnghaaDoor
