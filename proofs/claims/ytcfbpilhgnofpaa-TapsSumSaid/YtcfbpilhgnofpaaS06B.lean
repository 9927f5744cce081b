/- Weights that come to one: the document's small calls. -/
import Derived.Test.YtcfbpilhgnofpaaS06A
import Derived.Test.YtcfbpilhgnofpaaLA
import Derived.Test.YtcfbpilhgnofpaaS03B
namespace Go.Proofs.Ytcfbpilhgnofpaa
open Go.RowKit


theorem refplus_any (a b : Int) (h0 : -9223372036854775808 ≤ a) (h1 : a ≤ 9223372036854775807) (k0 : -9223372036854775808 ≤ b) (k1 : b ≤ 9223372036854775807) (w : World) :
    Calls Try.prog 30 #[.int .i64 a, .int .i64 b] w fun e w' => e = .returned (.int .i64 (plusH a b)) ∧ w = w' := by
  unfold plusH
  by_cases g : 0 < b
  · by_cases g2 : 9223372036854775807 - b < a
    · rw [holdI_hi (by omega)]
      go_enter Try.func30, Try.ntmps30
      go_wp2
      go_ret
      exact ⟨rfl, rfl⟩
    · rw [holdI_in (by omega) (by omega)]
      have g3 : ¬ b < 0 := by omega
      go_enter Try.func30, Try.ntmps30
      go_wp2
      go_ret
      exact ⟨rfl, rfl⟩
  · by_cases g3 : b < 0
    · by_cases g2 : a < -9223372036854775808 - b
      · rw [holdI_lo (by omega)]
        go_enter Try.func30, Try.ntmps30
        go_wp2
        go_ret
        exact ⟨rfl, rfl⟩
      · rw [holdI_in (by omega) (by omega)]
        go_enter Try.func30, Try.ntmps30
        go_wp2
        go_ret
        exact ⟨rfl, rfl⟩
    · rw [holdI_in (by omega) (by omega)]
      go_enter Try.func30, Try.ntmps30
      go_wp2
      go_ret
      exact ⟨rfl, rfl⟩
theorem refsizeH_any (x : Int) (h0 : -9223372036854775808 ≤ x) (h1 : x ≤ 9223372036854775807) (w : World) :
    Calls Try.prog 27 #[.int .i64 x] w fun e w' => e = .returned (.int .i64 (absH x)) ∧ w = w' := by
  unfold absH absI
  by_cases g : x < 0
  · rw [if_pos g]
    by_cases g2 : x < -9223372036854775807
    · rw [holdI_hi (by omega)]
      go_enter Try.func27, Try.ntmps27
      go_wp2
      go_ret
      exact ⟨rfl, rfl⟩
    · rw [holdI_in (by omega) (by omega)]
      go_enter Try.func27, Try.ntmps27
      go_wp2
      go_ret
      exact ⟨rfl, rfl⟩
  · rw [if_neg g, holdI_in (by omega) (by omega)]
    go_enter Try.func27, Try.ntmps27
    go_wp2
    go_ret
    exact ⟨rfl, rfl⟩
/-- Numbers that are int64's. -/
def All64 (xs : List Int) : Prop := ∀ j, j < xs.length → -9223372036854775808 ≤ xs.getD j 0 ∧ xs.getD j 0 ≤ 9223372036854775807
theorem refsum_any (xs : List Int) (ad : Option Addr) (cap : Nat) (w : World) (hr : RowAt .i64 w ad xs) (hx : All64 xs) (hl : xs.length ≤ 9223372036854775807) :
    Calls Try.prog 14 #[.slice ad xs.length cap] w fun e w' => e = .returned (.int .i64 (sumH xs)) ∧ w = w' := by
  have HR := hide hr
  have HX := hide hx
  clear hr hx
  obtain ⟨n, hn⟩ : ∃ n, xs.length = n := ⟨_, rfl⟩
  have HN := hide hn
  rw [hn] at hl ⊢
  clear hn
  go_enter Try.func14, Try.ntmps14
  go_wp2
  go_loop [3, 8] (fun s i => ∃ k : Nat, k ≤ n ∧ i = .int .i64 (k : Int) ∧ s = .int .i64 (sumH (xs.take k))) (fun _ i => n - (intOf i).toNat)
  case atStart => exact ⟨0, by omega, rfl, rfl⟩
  case round =>
    obtain ⟨k, hk, rfl, rfl⟩ := hrel
    by_cases hlt : k < n
    · obtain ⟨b, off, rfl, hc⟩ := HR.out.get (show k < xs.length by rw [HN.out]; exact hlt)
      obtain ⟨x0, x1⟩ := HX.out k (by rw [HN.out]; exact hlt)
      obtain ⟨s0, s1⟩ := sumH_in (xs.take k)
      have hs : sumH (xs.take (k + 1)) = plusH (sumH (xs.take k)) (xs.getD k 0) := by rw [take_step xs (by rw [HN.out]; exact hlt), sumH_snoc]
      have HS := hide hs
      clear hs
      have CP := fun w => refplus_any (sumH (xs.take k)) (xs.getD k 0) s0 s1 x0 x1 w
      generalize xs.getD k 0 = x at *
      go_wp2_with (go_at_call 30; (with_reducible refine (CP _).mono ?_); rintro e w1 ⟨rfl, rfl⟩)
      go_round
      case rel => exact ⟨k + 1, by omega, by go_num, by rw [HS.out]⟩
      case measure => simp [intOf]; omega
    · obtain rfl : k = n := by omega
      have e : xs.take k = xs := List.take_of_length_le (by rw [HN.out]; exact Nat.le_refl _)
      have HE := hide e
      clear e
      go_wp2
      go_ret
      exact ⟨ret_i64 (by rw [HE.out]), rfl⟩
theorem refsizes_any (xs : List Int) (ad : Option Addr) (cap : Nat) (w : World) (hr : RowAt .i64 w ad xs) (hx : All64 xs) (hl : xs.length ≤ 9223372036854775807) :
    Calls Try.prog 16 #[.slice ad xs.length cap] w fun e w' => e = .returned (.int .i64 (sizeH xs)) ∧ w = w' := by
  have HR := hide hr
  have HX := hide hx
  clear hr hx
  obtain ⟨n, hn⟩ : ∃ n, xs.length = n := ⟨_, rfl⟩
  have HN := hide hn
  rw [hn] at hl ⊢
  clear hn
  go_enter Try.func16, Try.ntmps16
  go_wp2
  go_loop [3, 8] (fun s i => ∃ k : Nat, k ≤ n ∧ i = .int .i64 (k : Int) ∧ s = .int .i64 (sizeH (xs.take k))) (fun _ i => n - (intOf i).toNat)
  case atStart => exact ⟨0, by omega, rfl, rfl⟩
  case round =>
    obtain ⟨k, hk, rfl, rfl⟩ := hrel
    by_cases hlt : k < n
    · obtain ⟨b, off, rfl, hc⟩ := HR.out.get (show k < xs.length by rw [HN.out]; exact hlt)
      obtain ⟨x0, x1⟩ := HX.out k (by rw [HN.out]; exact hlt)
      obtain ⟨s0, s1⟩ := sizeH_in (xs.take k)
      have hs : sizeH (xs.take (k + 1)) = plusH (sizeH (xs.take k)) (absH (xs.getD k 0)) := by rw [take_step xs (by rw [HN.out]; exact hlt), sizeH_snoc]
      have HS := hide hs
      clear hs
      have CP := fun w => refplus_any (sizeH (xs.take k)) (absH (xs.getD k 0)) (by omega) s1 (holdI0 _) (holdI1 _) w
      have CA := fun w => refsizeH_any (xs.getD k 0) x0 x1 w
      generalize xs.getD k 0 = x at *
      go_wp2_with (first
        | (go_at_call 30; (with_reducible refine (CP _).mono ?_); rintro e w1 ⟨rfl, rfl⟩)
        | (go_at_call 27; (with_reducible refine (CA _).mono ?_); rintro e w1 ⟨rfl, rfl⟩))
      go_round
      case rel => exact ⟨k + 1, by omega, by go_num, by rw [HS.out]⟩
      case measure => simp [intOf]; omega
    · obtain rfl : k = n := by omega
      have e : xs.take k = xs := List.take_of_length_le (by rw [HN.out]; exact Nat.le_refl _)
      have HE := hide e
      clear e
      go_wp2
      go_ret
      exact ⟨ret_i64 (by rw [HE.out]), rfl⟩
/-- The same numbers. -/
theorem same_yes (xs : List Int) (ad bd : Option Addr) (cap cap' : Nat) (w : World) (hr : RowAt .i64 w ad xs) (hq : RowAt .i64 w bd xs) (hl : xs.length ≤ 9223372036854775807) :
    Calls Try.prog 11 #[.slice ad xs.length cap, .slice bd xs.length cap'] w fun e w' => e = .returned (.bool true) ∧ Below w.heap.size w w' := by
  have HR := hide hr
  have HQ := hide hq
  clear hr hq
  obtain ⟨n, hn⟩ : ∃ n, xs.length = n := ⟨_, rfl⟩
  have HN := hide hn
  rw [hn] at hl ⊢
  clear hn
  go_enter Try.func11, Try.ntmps11
  go_wp2
  go_loopw [13] (fun i wr => ∃ k : Nat, k ≤ n ∧ i = .int .i64 (k : Int) ∧ Below w.heap.size w wr) (fun i _ => n - (intOf i).toNat)
  case atStart => exact ⟨0, by omega, rfl, Below.refl _ _⟩
  case round =>
    obtain ⟨k, hk, rfl, hb⟩ := hrel
    have HB := hide hb
    clear hb
    by_cases hlt : k < n
    · obtain ⟨b, off, rfl, hc⟩ := (HR.out.below HB.out).get (show k < xs.length by rw [HN.out]; exact hlt)
      obtain ⟨b', off', rfl, hc'⟩ := (HQ.out.below HB.out).get (show k < xs.length by rw [HN.out]; exact hlt)
      generalize xs.getD k 0 = x at *
      go_wp2_with fail
      go_quiet (fail)
      go_wp2
      go_roundw
      case rel => exact ⟨k + 1, by omega, by go_num, bdN HB.out _⟩
      case measure => simp [intOf]; omega
    · obtain rfl : k = n := by omega
      go_wp2
      go_ret
      exact ⟨rfl, HB.out⟩
end Go.Proofs.Ytcfbpilhgnofpaa
