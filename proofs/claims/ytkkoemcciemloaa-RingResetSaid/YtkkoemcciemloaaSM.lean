/- Two slices of the same numbers: the statements' own comparison. -/
import Derived.Test.YtkkoemcciemloaaLA
namespace Go.Proofs.Ytkkoemcciemloaa
open Go.RowKit


/-- The same numbers. -/
theorem same_yes (xs : List Int) (ad bd : Option Addr) (cap cap' : Nat) (w : World) (hr : RowAt .i64 w ad xs) (hq : RowAt .i64 w bd xs) (hl : xs.length ≤ 9223372036854775807) :
    Calls Try.prog 16 #[.slice ad xs.length cap, .slice bd xs.length cap'] w fun e w' => e = .returned (.bool true) ∧ Below w.heap.size w w' := by
  have HR := hide hr
  have HQ := hide hq
  clear hr hq
  obtain ⟨n, hn⟩ : ∃ n, xs.length = n := ⟨_, rfl⟩
  have HN := hide hn
  rw [hn] at hl ⊢
  clear hn
  go_enter Try.func16, Try.ntmps16
  go_wp2
  go_loopw [13] (fun i wr => ∃ k : Nat, k ≤ n ∧ i = .int .i64 (k : Int) ∧ Below w.heap.size w wr) (fun i _ => n - (intOf i).toNat)
  case atStart => exact ⟨0, by omega, rfl, Below.refl _ _⟩
  case round =>
    obtain ⟨k, hk, rfl, hb⟩ := hrel
    have HB := hide hb
    clear hb
    by_cases hlt : k < n
    · obtain ⟨b, off, rfl, hc⟩ := (HR.out.below HB.out).get (show k < xs.length by rw [HN.out]; exact hlt)
      obtain ⟨b', off', rfl, hc'⟩ := (HQ.out.below HB.out).get (show k < xs.length by rw [HN.out]; exact hlt)
      generalize xs.getD k 0 = x at *
      go_wp2_with fail
      go_quiet (fail)
      go_wp2
      go_roundw
      case rel => exact ⟨k + 1, by omega, by go_num, bdN HB.out _⟩
      case measure => simp [intOf]; omega
    · obtain rfl : k = n := by omega
      go_wp2
      go_ret
      exact ⟨rfl, HB.out⟩
theorem same_n (n : Nat) (xs : List Int) (hn : xs.length = n) (ad bd : Option Addr) (cap cap' : Nat) (w : World) (hr : RowAt .i64 w ad xs) (hq : RowAt .i64 w bd xs) (hl : n ≤ 9223372036854775807) :
    Calls Try.prog 16 #[.slice ad n cap, .slice bd n cap'] w fun e w' => e = .returned (.bool true) ∧ Below w.heap.size w w' := by
  subst hn
  exact same_yes xs ad bd cap cap' w hr hq hl
end Go.Proofs.Ytkkoemcciemloaa
