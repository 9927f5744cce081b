/- The exponential function, in integers: plain arithmetic. -/
import Derived.Test.YtcfbpilhgnofpaaN
import Derived.Test.YtcfbpilhgnofpaaF
namespace Go.Proofs.Ytcfbpilhgnofpaa
open Go.RowKit


/-- The terms, and their sum, with signs in turn. -/
def termE (r : Int) : Nat → Int
  | 0 => 1099511627776
  | n + 1 => divF (termE r n * r) (((n : Int) + 1) * 1099511627776)
def sumE (r : Int) : Nat → Int
  | 0 => 1099511627776
  | n + 1 => if n % 2 = 0 then sumE r n - termE r (n + 1) else sumE r n + termE r (n + 1)
def posI (t : Int) : Int := max t 0
def expoF (t : Int) : Int := shiftF (sumE (posI t % 762123384786) 16) (posI t / 762123384786)
def ratioF (d s : Int) : Int := if s < 1 ∨ 4194304 < s ∨ d < -16384 ∨ 16384 < d then 9223372036854775807 else divF (d * d * 2147483648 * 1099511627776) (s * s)
def gaussF (d s : Int) : Int := shiftF (expoF (ratioF d s)) 10
theorem near_in {X d m : Int} (hd : 0 < d) (h0 : 0 ≤ X) (h1 : X ≤ m * d) : 0 ≤ nearQ X d ∧ nearQ X d ≤ m := by
  unfold nearQ
  rw [if_neg (by omega)]
  refine ⟨Int.ediv_nonneg (by omega) (by omega), ?_⟩
  have h : (2 * X + d) / (2 * d) < m + 1 := by
    apply Int.ediv_lt_of_lt_mul (by omega)
    have e : (m + 1) * (2 * d) = 2 * (m * d) + 2 * d := by rw [Int.add_mul, Int.mul_left_comm]; omega
    rw [e]; omega
  omega
theorem termE_in {r : Int} (h0 : 0 ≤ r) (h1 : r ≤ 1099511627776) (n : Nat) : 0 ≤ termE r n ∧ termE r n ≤ 1099511627776 := by
  induction n with
  | zero => simp [termE]
  | succ n ih =>
    obtain ⟨a0, a1⟩ := ih
    have p0 : 0 ≤ termE r n * r := Int.mul_nonneg a0 h0
    have p1 : termE r n * r ≤ 1099511627776 * 1099511627776 := Int.mul_le_mul a1 h1 h0 (by omega)
    have p2 : (1099511627776 : Int) * 1099511627776 ≤ 1099511627776 * (((n : Int) + 1) * 1099511627776) := by omega
    have q := near_in (X := termE r n * r) (d := ((n : Int) + 1) * 1099511627776) (m := 1099511627776) (by omega) p0 (by omega)
    show 0 ≤ divF _ _ ∧ divF _ _ ≤ _
    rw [divF_of (by omega), holdI_in (by omega) (by omega)]
    exact q
theorem sumE_in {r : Int} (h0 : 0 ≤ r) (h1 : r ≤ 1099511627776) (n : Nat) : -(((n : Int) + 1) * 1099511627776) ≤ sumE r n ∧ sumE r n ≤ ((n : Int) + 1) * 1099511627776 := by
  induction n with
  | zero => simp [sumE]
  | succ n ih =>
    have t := termE_in h0 h1 (n + 1)
    unfold sumE
    split <;> omega
theorem posI0 (t : Int) : 0 ≤ posI t := by unfold posI; omega
theorem posI1 {t : Int} (h : t ≤ 9223372036854775807) : posI t ≤ 9223372036854775807 := by unfold posI; omega
theorem shiftF_in {x n : Int} (h0 : -9223372036854775808 ≤ x) (h1 : x ≤ 9223372036854775807) : -9223372036854775808 ≤ shiftF x n ∧ shiftF x n ≤ 9223372036854775807 := by
  unfold shiftF
  split
  · exact ⟨h0, h1⟩
  · split
    · omega
    · exact shift_in _ h0 h1
theorem sum16_in {r : Int} (h0 : 0 ≤ r) (h1 : r < 762123384786) : -18691697672192 ≤ sumE r 16 ∧ sumE r 16 ≤ 18691697672192 := by
  have := sumE_in h0 (by omega : r ≤ 1099511627776) 16
  omega
theorem exp_parts {t : Int} (h0 : 0 ≤ t) (h1 : t ≤ 9223372036854775807) : 0 ≤ t % 762123384786 ∧ t % 762123384786 < 762123384786 ∧ 0 ≤ t / 762123384786 ∧ t / 762123384786 ≤ 12102203 := by omega
theorem expoF_in {t : Int} (h1 : t ≤ 9223372036854775807) : -9223372036854775808 ≤ expoF t ∧ expoF t ≤ 9223372036854775807 := by
  have p := exp_parts (posI0 t) (posI1 h1)
  have s := sum16_in p.1 p.2.1
  exact shiftF_in (by omega) (by omega)
theorem divF_in (a b : Int) : -9223372036854775808 ≤ divF a b ∧ divF a b ≤ 9223372036854775807 := by
  unfold divF
  split
  · omega
  · exact ⟨holdI0 _, holdI1 _⟩
theorem ratioF_in (d s : Int) : -9223372036854775808 ≤ ratioF d s ∧ ratioF d s ≤ 9223372036854775807 := by
  unfold ratioF
  split
  · omega
  · exact divF_in _ _
theorem sumE_zero (n : Nat) : sumE 0 n = 1099511627776 := by
  have t : ∀ k : Nat, termE 0 (k + 1) = 0 := by
    intro k
    show divF _ _ = 0
    rw [divF_of (by omega), Int.mul_zero]
    have q := near_in (X := 0) (d := ((k : Int) + 1) * 1099511627776) (m := 0) (by omega) (by omega) (by omega)
    rw [holdI_in (by omega) (by omega)]
    omega
  induction n with
  | zero => rfl
  | succ n ih => unfold sumE; rw [t, ih]; split <;> omega
theorem expoF_low {t : Int} (h : t ≤ 0) : expoF t = 1099511627776 := by
  have e : posI t = 0 := by unfold posI; omega
  unfold expoF
  rw [e]
  show shiftF (sumE 0 16) 0 = _
  rw [sumE_zero]; rfl
theorem expoF_far {t : Int} (h : 70368744177664 < t) : expoF t = 0 := by
  have e : posI t = t := by unfold posI; omega
  unfold expoF shiftF
  rw [e, if_neg (by omega), if_pos (by omega)]
theorem gaussF_mid : gaussF 0 1 = 1073741824 := by
  have e : ratioF 0 1 = 0 := by decide
  unfold gaussF
  rw [e, expoF_low (by omega)]; rfl
theorem gaussF_out {d s : Int} (h : s < 1 ∨ 4194304 < s ∨ d < -16384 ∨ 16384 < d) : ratioF d s = 9223372036854775807 ∧ gaussF d s = 0 := by
  have e : ratioF d s = 9223372036854775807 := if_pos h
  refine ⟨e, ?_⟩
  unfold gaussF
  rw [e, expoF_far (by omega)]; rfl
theorem abs_sq (s : Int) : s * s = absI s * absI s := by
  unfold absI
  split
  · rw [Int.neg_mul_neg]
  · rfl
theorem sq_in {s : Int} (h0 : -16777216 ≤ s) (h1 : s ≤ 16777216) : 0 ≤ s * s ∧ s * s ≤ 281474976710656 := by
  have a := abs_sq s
  have b0 : 0 ≤ absI s := absI0 s
  have b1 : absI s ≤ 16777216 := by unfold absI; split <;> omega
  rw [a]
  exact ⟨Int.mul_nonneg b0 b0, Int.mul_le_mul b1 b1 b0 (by omega)⟩
theorem ratioF_pos (d s : Int) : 0 ≤ ratioF d s := by
  unfold ratioF
  split
  · omega
  · rename_i h
    have a := sq_in (s := d) (by omega) (by omega)
    have b := sq_in (s := s) (by omega) (by omega)
    generalize d * d = D at *
    generalize s * s = S at *
    unfold divF
    split
    · omega
    · have q := near_in (X := D * 2147483648 * 1099511627776) (d := S) (m := D * 2147483648 * 1099511627776) (by omega) (by omega) (by
        have : 1 * (D * 2147483648 * 1099511627776) ≤ S * (D * 2147483648 * 1099511627776) := Int.mul_le_mul_of_nonneg_right (by omega) (by omega)
        rw [Int.mul_comm S] at this; omega)
      unfold holdI
      split <;> (try split) <;> omega
theorem shiftF_mid (S : Int) {k : Nat} (h : k ≤ 62) : shiftF S ((k : Int) + 1) = (S / 2 ^ k + 1) / 2 := by
  unfold shiftF
  rw [if_neg (by omega), if_neg (by omega), show ((k : Int) + 1).toNat - 1 = k by omega]
end Go.Proofs.Ytcfbpilhgnofpaa
