/- The laws on heads, but those on texts. -/
import Derived.Test.YtmkkhgnhpcgaaaaS10K
import Derived.Test.YtmkkhgnhpcgaaaaS10Q
namespace Go.Proofs.Ytmkkhgnhpcgaaaa
open Go.RowKit

theorem kb_true : KB (fun _ => True) := fun _ _ _ _ => trivial
theorem hblank_c : HBlankC (fun _ => True) := fun x _ _ w _ => (hblank_any x w).mono fun _ _ ⟨he, hw⟩ => ⟨he, hw ▸ Below.refl _ _⟩
theorem law_HeaderBlanks (x : Int) (w : World) (h : 0 ≤ x ∧ x ≤ 255) :
    Calls Try.prog 5 #[.int .u8 x] w fun e w' => e = .returned (.bool true) ∧ Below w.heap.size w w' :=
  of_HeaderBlanks kb_true hparse_any hblank_c x h.1 h.2 w trivial
theorem law_HeaderParses (xs : List Int) (ad : Option Addr) (cap : Nat) (w : World) (hr : RowAt .u8 w ad xs) (hx : AllK .u8 xs) (hl : xs.length ≤ maxLen) (hz : ad = none → cap = 0) :
    Calls Try.prog 3 #[.slice ad xs.length cap] w fun e w' => e = .returned (.bool true) ∧ Below w.heap.size w w' :=
  of_HeaderParses kb_true hparse_any xs ad cap w trivial hr hx hl hz
theorem law_HeaderRemarks (a b t : Int) (xs : List Int) (ad1 : Option Addr) (c1 : Nat) (ys : List Int) (ad2 : Option Addr) (c2 : Nat) (zs : List Int) (ad3 : Option Addr) (c3 : Nat) (w : World)
    (ha : 0 ≤ a ∧ a ≤ 65535) (hb : 0 ≤ b ∧ b ≤ 65535) (ht : 0 ≤ t ∧ t ≤ 65535)
    (r1 : RowAt .u8 w ad1 xs) (x1 : AllK .u8 xs) (l1 : xs.length ≤ 140737488351232) (_ : ad1 = none → c1 = 0) (r2 : RowAt .u8 w ad2 ys) (x2 : AllK .u8 ys) (l2 : ys.length ≤ 140737488351232) (_ : ad2 = none → c2 = 0)
    (r3 : RowAt .u8 w ad3 zs) (x3 : AllK .u8 zs) (l3 : zs.length ≤ 140737488351232) (_ : ad3 = none → c3 = 0) :
    Calls Try.prog 4 #[.int .u16 a, .int .u16 b, .int .u16 t, .slice ad1 xs.length c1, .slice ad2 ys.length c2, .slice ad3 zs.length c3] w fun e w' => e = .returned (.bool true) ∧ Below w.heap.size w w' :=
  of_HeaderRemarks kb_true hparse_any a b t ha.1 hb.1 ht.1 ht.2 xs ys zs ad1 ad2 ad3 c1 c2 c3 w trivial r1 r2 r3 x1 x2 x3 l1 l2 l3
end Go.Proofs.Ytmkkhgnhpcgaaaa
