/- The law on shifts. -/
import Derived.Test.YtgkcbbnhhaobcaaP
import Derived.Test.YtgkcbbnhhaobcaaG
namespace Go.Proofs.Ytgkcbbnhhaobcaa
open Go.RowKit

theorem refshift_any (x n : Int) (h0 : -9223372036854775808 ≤ x) (h1 : x ≤ 9223372036854775807) (w : World) :
    Calls Try.prog 15 #[.int .i64 x, .int .i64 n] w fun e w' => e = .returned (.int .i64 (shiftF x n)) ∧ Below w.heap.size w w' := by
  by_cases hs : n < 1
  · rw [show shiftF x n = x from if_pos (by omega)]
    exact (refshift_small x n hs w).mono fun e w' ⟨he, hw⟩ => ⟨he, hw ▸ Below.refl _ _⟩
  by_cases hg : 64 < n
  · rw [show shiftF x n = 0 from (if_neg (by omega)).trans (if_pos (by omega))]
    exact (refshift_great x n hg w).mono fun e w' ⟨he, hw⟩ => ⟨he, hw ▸ Below.refl _ _⟩
  obtain ⟨N, rfl⟩ : ∃ N : Nat, n = (N : Int) + 1 := ⟨n.toNat - 1, by omega⟩
  exact refshift_mid x _ N rfl h0 h1 (by omega) w

theorem div_pow (x : Int) (n : Nat) (h0 : -9223372036854775808 ≤ x) (h1 : x ≤ 9223372036854775807) (hn : n ≤ 62) : divF x (2 ^ n) = shiftF x n := by
  have p := pow2_pos n
  rw [divF_of (by omega)]
  unfold shiftF
  by_cases hz : n = 0
  · subst hz
    rw [if_pos (by omega)]
    have e : nearQ x (2 ^ 0) = x := by unfold nearQ; rw [if_neg (by decide)]; simp; omega
    rw [e, holdI_in h0 h1]
  · obtain ⟨m, rfl⟩ : ∃ m, n = m + 1 := ⟨n - 1, by omega⟩
    rw [if_neg (by omega), if_neg (by omega), near_pow]
    have e : ((m + 1 : Nat) : Int).toNat - 1 = m := by omega
    rw [e]
    exact holdI_in (shift_in m h0 h1).1 (shift_in m h0 h1).2

set_option maxHeartbeats 1000000 in
theorem law_FixedShifts (x n : Int) (hx : -9223372036854775808 ≤ x ∧ x ≤ 9223372036854775807) (hn : -9223372036854775808 ≤ n ∧ n ≤ 9223372036854775807) (w : World) :
    Calls Try.prog 5 #[.int .i64 x, .int .i64 n] w fun e w' => e = .returned (.bool true) ∧ Below w.heap.size w w' := by
  obtain ⟨h0, h1⟩ := hx
  obtain ⟨k0, k1⟩ := hn
  have CS := fixshift_any x n h0 h1 k0 k1
  have CR := refshift_any x n h0 h1
  by_cases hneg : n < 0
  · go_enter Try.func5, Try.ntmps5
    go_wp2_with (first
      | (go_at_call 8; (with_reducible refine (lives _).mono ?_); rintro e w0 ⟨rfl, b0⟩)
      | (go_at_call 14; (with_reducible refine (CS _).mono ?_); rintro e w1 ⟨rfl, b1⟩)
      | (go_at_call 15; (with_reducible refine (CR _).mono ?_); rintro e w2 ⟨rfl, b2⟩))
    go_ret
    exact ⟨rfl, bt (bt b0 b1) b2⟩
  by_cases hbig : 62 < n
  · go_enter Try.func5, Try.ntmps5
    go_wp2_with (first
      | (go_at_call 8; (with_reducible refine (lives _).mono ?_); rintro e w0 ⟨rfl, b0⟩)
      | (go_at_call 14; (with_reducible refine (CS _).mono ?_); rintro e w1 ⟨rfl, b1⟩)
      | (go_at_call 15; (with_reducible refine (CR _).mono ?_); rintro e w2 ⟨rfl, b2⟩))
    go_ret
    exact ⟨rfl, bt (bt b0 b1) b2⟩
  obtain ⟨m, rfl⟩ : ∃ m : Nat, n = (m : Int) := ⟨n.toNat, by omega⟩
  have p := pow2_pos m
  have p2 : (2 : Int) ^ m ≤ 4611686018427387904 := by
    have : (2 : Int) ^ m ≤ 2 ^ 62 := by exact_mod_cast Nat.pow_le_pow_right (by decide) (show m ≤ 62 by omega)
    simpa using this
  have CD := fixdiv_any x (2 ^ m) h0 h1 (by omega) (by omega)
  rw [div_pow x m h0 h1 (by omega)] at CD
  generalize shiftF x (m : Int) = s at *
  go_enter Try.func5, Try.ntmps5
  go_wp2_with (first
    | (go_at_call 8; (with_reducible refine (lives _).mono ?_); rintro e w0 ⟨rfl, b0⟩)
    | (go_at_call 14; (with_reducible refine (CS _).mono ?_); rintro e w1 ⟨rfl, b1⟩)
    | (go_at_call 15; (with_reducible refine (CR _).mono ?_); rintro e w2 ⟨rfl, b2⟩)
    | (go_at_call 9; (with_reducible refine (CD _).mono ?_); rintro e w' ⟨rfl, rfl⟩))
  go_ret
  exact ⟨rfl, bt (bt b0 b1) b2⟩
end Go.Proofs.Ytgkcbbnhhaobcaa
