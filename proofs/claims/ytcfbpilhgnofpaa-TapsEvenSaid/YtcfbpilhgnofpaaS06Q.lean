/- Weights that come to one: the program's sums, kernels. -/
import Derived.Test.YtcfbpilhgnofpaaS06F
import Derived.Test.YtcfbpilhgnofpaaJ
import Derived.Test.YtcfbpilhgnofpaaS
import Derived.Test.YtcfbpilhgnofpaaLC
namespace Go.Proofs.Ytcfbpilhgnofpaa
open Go.RowKit

theorem absH_in (x : Int) : 0 ≤ absH x ∧ absH x ≤ 9223372036854775807 := by
  unfold absH holdI; have := absI0 x; split <;> (try split) <;> omega
theorem absH_neg {x : Int} (h : x < 0) : absH x = holdI (-x) := by unfold absH absI; rw [if_pos h]
theorem absH_pos {x : Int} (h : ¬ x < 0) (h1 : x ≤ 9223372036854775807) : absH x = x := by unfold absH absI; rw [if_neg h, holdI_in (by omega) (by omega)]
theorem without_any (x : Int) (h0 : -9223372036854775808 ≤ x) (h1 : x ≤ 9223372036854775807) (w : World) :
    Calls Try.prog 31 #[.int .i64 x] w fun e w' => e = .returned (.int .i64 (absH x)) ∧ w = w' := by
  by_cases g : x < 0
  · rw [absH_neg g]
    have CM : ∀ w : World, Calls Try.prog 46 #[.int .i64 x, .int .i64 (-1)] w fun e w' => e = .returned (.int .i64 (holdI (-x))) ∧ w = w' := fun w => by
      have := fixmul_any x (-1) h0 h1 (by omega) (by omega) w
      rw [show x * -1 = -x by omega] at this
      exact this
    generalize holdI (-x) = y at *
    go_enter Try.func31, Try.ntmps31
    go_wp2_with (go_at_call 46; (with_reducible refine (CM _).mono ?_); rintro e w1 ⟨rfl, rfl⟩)
    go_ret
    exact ⟨rfl, rfl⟩
  · rw [absH_pos g h1]
    go_enter Try.func31, Try.ntmps31
    go_wp2
    go_ret
    exact ⟨rfl, rfl⟩
theorem tsum_any (xs : List Int) (ad : Option Addr) (cap : Nat) (w : World) (hr : RowAt .i64 w ad xs) (hx : All64 xs) (hl : xs.length ≤ 9223372036854775807) :
    Calls Try.prog 13 #[.slice ad xs.length cap] w fun e w' => e = .returned (.int .i64 (sumH xs)) ∧ w = w' := by
  have HR := hide hr
  have HX := hide hx
  clear hr hx
  obtain ⟨n, hn⟩ : ∃ n, xs.length = n := ⟨_, rfl⟩
  have HN := hide hn
  rw [hn] at hl ⊢
  clear hn
  go_enter Try.func13, Try.ntmps13
  go_wp2
  go_loop [3, 8] (fun s i => ∃ k : Nat, k ≤ n ∧ i = .int .i64 (k : Int) ∧ s = .int .i64 (sumH (xs.take k))) (fun _ i => n - (intOf i).toNat)
  case atStart => exact ⟨0, by omega, rfl, rfl⟩
  case round =>
    obtain ⟨k, hk, rfl, rfl⟩ := hrel
    by_cases hlt : k < n
    · obtain ⟨b, off, rfl, hc⟩ := HR.out.get (show k < xs.length by rw [HN.out]; exact hlt)
      obtain ⟨x0, x1⟩ := HX.out k (by rw [HN.out]; exact hlt)
      obtain ⟨s0, s1⟩ := sumH_in (xs.take k)
      have hs : sumH (xs.take (k + 1)) = holdI (sumH (xs.take k) + xs.getD k 0) := by rw [take_step xs (by rw [HN.out]; exact hlt), sumH_snoc]; rfl
      have HS := hide hs
      clear hs
      have CP := fun w => fixadd_any (sumH (xs.take k)) (xs.getD k 0) s0 s1 x0 x1 w
      generalize xs.getD k 0 = x at *
      generalize holdI (sumH (xs.take k) + x) = y at *
      go_wp2_with (go_at_call 29; (with_reducible refine (CP _).mono ?_); rintro e w1 ⟨rfl, rfl⟩)
      go_round
      case rel => exact ⟨k + 1, by omega, by go_num, by rw [HS.out]⟩
      case measure => simp [intOf]; omega
    · obtain rfl : k = n := by omega
      have e : xs.take k = xs := List.take_of_length_le (by rw [HN.out]; exact Nat.le_refl _)
      have HE := hide e
      clear e
      go_wp2
      go_ret
      exact ⟨ret_i64 (by rw [HE.out]), rfl⟩
theorem tsize_any (xs : List Int) (ad : Option Addr) (cap : Nat) (w : World) (hr : RowAt .i64 w ad xs) (hx : All64 xs) (hl : xs.length ≤ 9223372036854775807) :
    Calls Try.prog 15 #[.slice ad xs.length cap] w fun e w' => e = .returned (.int .i64 (sizeH xs)) ∧ w = w' := by
  have HR := hide hr
  have HX := hide hx
  clear hr hx
  obtain ⟨n, hn⟩ : ∃ n, xs.length = n := ⟨_, rfl⟩
  have HN := hide hn
  rw [hn] at hl ⊢
  clear hn
  go_enter Try.func15, Try.ntmps15
  go_wp2
  go_loop [3, 8] (fun s i => ∃ k : Nat, k ≤ n ∧ i = .int .i64 (k : Int) ∧ s = .int .i64 (sizeH (xs.take k))) (fun _ i => n - (intOf i).toNat)
  case atStart => exact ⟨0, by omega, rfl, rfl⟩
  case round =>
    obtain ⟨k, hk, rfl, rfl⟩ := hrel
    by_cases hlt : k < n
    · obtain ⟨b, off, rfl, hc⟩ := HR.out.get (show k < xs.length by rw [HN.out]; exact hlt)
      obtain ⟨x0, x1⟩ := HX.out k (by rw [HN.out]; exact hlt)
      obtain ⟨s0, s1⟩ := sizeH_in (xs.take k)
      have hs : sizeH (xs.take (k + 1)) = holdI (sizeH (xs.take k) + absH (xs.getD k 0)) := by rw [take_step xs (by rw [HN.out]; exact hlt), sizeH_snoc]; rfl
      have HS := hide hs
      clear hs
      have CW := fun w => without_any (xs.getD k 0) x0 x1 w
      obtain ⟨a0, a1⟩ := absH_in (xs.getD k 0)
      have CP := fun w => fixadd_any (sizeH (xs.take k)) (absH (xs.getD k 0)) (by omega) s1 (by omega) a1 w
      generalize xs.getD k 0 = x at *
      generalize absH x = a at *
      generalize holdI (sizeH (xs.take k) + a) = y at *
      go_wp2_with (first
        | (go_at_call 29; (with_reducible refine (CP _).mono ?_); rintro e w1 ⟨rfl, rfl⟩)
        | (go_at_call 31; (with_reducible refine (CW _).mono ?_); rintro e w1 ⟨rfl, rfl⟩))
      go_round
      case rel => exact ⟨k + 1, by omega, by go_num, by rw [HS.out]⟩
      case measure => simp [intOf]; omega
    · obtain rfl : k = n := by omega
      have e : xs.take k = xs := List.take_of_length_le (by rw [HN.out]; exact Nat.le_refl _)
      have HE := hide e
      clear e
      go_wp2
      go_ret
      exact ⟨ret_i64 (by rw [HE.out]), rfl⟩
theorem abs_over {x : Int} : smallW x ↔ ¬ 1099511627776 < absH x := by
  unfold smallW absH absI
  by_cases g : x < 0
  · rw [if_pos g]
    by_cases h : -x ≤ 9223372036854775807
    · rw [holdI_in (by omega) (by omega)]; omega
    · rw [holdI_hi (by omega)]; omega
  · rw [if_neg g]
    by_cases h : x ≤ 9223372036854775807
    · rw [holdI_in (by omega) (by omega)]; omega
    · rw [holdI_hi (by omega)]; omega
theorem bounded_any (xs : List Int) (ad : Option Addr) (cap : Nat) (w : World) (hr : RowAt .i64 w ad xs) (hx : All64 xs) (hl : xs.length ≤ 9223372036854775807) (v : Bool) (hv : badB xs = !v) :
    Calls Try.prog 23 #[.slice ad xs.length cap] w fun e w' => e = .returned (.bool v) ∧ w = w' := by
  have B := badB_iff xs
  rw [hv] at B
  have HB1 := hide (show (¬ (xs.length < 1 ∨ 1048576 < xs.length)) → (∀ x ∈ xs, smallW x) → v = true from fun h0 h => by
    cases v with
    | true => rfl
    | false =>
      rcases B.1 rfl with h1 | h1 | h1
      · exact absurd (Or.inl h1) h0
      · exact absurd (Or.inr h1) h0
      · exact absurd h h1)
  have HB2 := hide (show (xs.length < 1 ∨ 1048576 < xs.length ∨ ¬ ∀ x ∈ xs, smallW x) → v = false from fun h => by
    have := B.2 h
    cases v with
    | true => cases this
    | false => rfl)
  clear hv B
  have HR := hide hr
  have HX := hide hx
  clear hr hx
  obtain ⟨n, hn⟩ : ∃ n, xs.length = n := ⟨_, rfl⟩
  have HN := hide hn
  rw [hn] at hl ⊢
  clear hn
  by_cases g0 : n = 0
  · obtain rfl := HB2.out (Or.inl (by rw [HN.out]; omega))
    subst g0
    clear HN HB1 HB2
    go_enter Try.func23, Try.ntmps23
    go_wp2
    go_ret
    exact ⟨rfl, rfl⟩
  by_cases g1 : 1048576 < n
  · obtain rfl := HB2.out (Or.inr (Or.inl (by rw [HN.out]; omega)))
    have b0 : ((n : Int) == 0) = false := beq_eq_false_iff_ne.2 (by omega)
    have b1 : decide ((1048576 : Int) < (n : Int)) = true := decide_eq_true (by omega)
    clear HB1 HB2
    go_enter Try.func23, Try.ntmps23
    go_wp2
    go_ret
    exact ⟨rfl, rfl⟩
  have HV1 := hide (HB1.out (by rw [HN.out]; omega))
  have b0 : ((n : Int) == 0) = false := beq_eq_false_iff_ne.2 (by omega)
  have b1 : decide ((1048576 : Int) < (n : Int)) = false := decide_eq_false (by omega)
  clear g0 HB1
  go_enter Try.func23, Try.ntmps23
  go_wp2
  clear b0 b1
  go_loop [15] (fun i => ∃ k : Nat, k ≤ n ∧ i = .int .i64 (k : Int) ∧ Hid (∀ j, j < k → smallW (xs.getD j 0))) (fun i => n - (intOf i).toNat)
  case atStart => exact ⟨0, by omega, rfl, hide (fun j hj => absurd hj (Nat.not_lt_zero _))⟩
  case round =>
    obtain ⟨k, hk, rfl, HJ⟩ := hrel
    by_cases hlt : k < n
    · obtain ⟨b, off, rfl, hc⟩ := HR.out.get (show k < xs.length by rw [HN.out]; exact hlt)
      obtain ⟨x0, x1⟩ := HX.out k (by rw [HN.out]; exact hlt)
      have CW := fun w => without_any (xs.getD k 0) x0 x1 w
      obtain ⟨a0, a1⟩ := absH_in (xs.getD k 0)
      by_cases g : 1099511627776 < absH (xs.getD k 0)
      · obtain rfl := HB2.out (Or.inr (Or.inr (fun h => by
          have := mem_getD h (show k < xs.length by rw [HN.out]; exact hlt)
          exact abs_over.1 this g)))
        generalize xs.getD k 0 = x at hc CW x0 x1 a0 a1 g
        generalize absH x = a at *
        go_wp2_with (go_at_call 31; (with_reducible refine (CW _).mono ?_); rintro e w1 ⟨rfl, rfl⟩)
        go_ret
        exact ⟨rfl, rfl⟩
      · have HS := hide (abs_over.2 g)
        have HK := hide (show ∀ j, j < k + 1 → smallW (xs.getD j 0) from fun j hj => by
          by_cases e : j = k
          · subst e; exact HS.out
          · exact HJ.out j (by omega))
        clear HS
        generalize xs.getD k 0 = x at hc CW x0 x1 a0 a1 g
        generalize absH x = a at *
        go_wp2_with (go_at_call 31; (with_reducible refine (CW _).mono ?_); rintro e w1 ⟨rfl, rfl⟩)
        go_round
        case rel => exact ⟨k + 1, by omega, by go_num, HK⟩
        case measure => simp [intOf]; omega
    · obtain rfl : k = n := by omega
      obtain rfl := HV1.out (getD_mem (fun j hj => HJ.out j (by rw [HN.out] at hj; exact hj)))
      go_wp2
      go_ret
      exact ⟨rfl, rfl⟩
end Go.Proofs.Ytcfbpilhgnofpaa
