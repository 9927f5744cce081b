/- Parts, joined. -/
import Derived.Test.YtjmjgokgjeankaaDoorJ10
import Derived.Test.YtjmjgokgjeankaaDoorJ11
import Derived.Test.YtjmjgokgjeankaaDoorJ07
import Derived.WalkLawsBesides
import Derived.WalkKit
import Derived.OwnWalk
import Derived.Deep.RegionHeld3
/- What each source sample weighs: Keys' cubic, in integers and by float64. -/
namespace Go.Proofs.YtjmjgokgjeankaaDoor
open Go.RowKit Ieee

/-- Keys' cubic, as a raw weight. -/
def lowK (p q : Int) : Int := 3 * (p * p * p) - 5 * (p * p) * q + 2 * (q * q * q)
def highK (p q : Int) : Int := 5 * (p * p) * q - p * p * p - 8 * p * (q * q) + 4 * (q * q * q)
def keysF (p q : Int) : Int := if 1 ≤ q ∧ q ≤ 262144 ∧ p < 2 * q ∧ -2 * q < p then (if absI p < q then divF (lowK (absI p) q * 1073741824) (2 * (q * q * q)) else divF (highK (absI p) q * 1073741824) (2 * (q * q * q))) else 0
theorem keysF_neg (p q : Int) : keysF (-p) q = keysF p q := by
  have e : (1 ≤ q ∧ q ≤ 262144 ∧ -p < 2 * q ∧ -2 * q < -p) ↔ (1 ≤ q ∧ q ≤ 262144 ∧ p < 2 * q ∧ -2 * q < p) := by omega
  unfold keysF
  rw [abs_minus]
  simp only [e]
theorem cubes {q : Int} (q0 : 1 ≤ q) (q1 : q ≤ 262144) : 1 ≤ q * q ∧ q * q ≤ 68719476736 ∧ 1 ≤ q * q * q ∧ q * q * q ≤ 18014398509481984 := by
  have a : 1 * 1 ≤ q * q := Int.mul_le_mul q0 q0 (by omega) (by omega)
  have b : q * q ≤ 262144 * 262144 := Int.mul_le_mul q1 q1 (by omega) (by omega)
  have c : 1 * 1 ≤ q * q * q := Int.mul_le_mul a q0 (by omega) (by omega)
  have d : q * q * q ≤ 262144 * 262144 * 262144 := Int.mul_le_mul b q1 (by omega) (by omega)
  omega
end Go.Proofs.YtjmjgokgjeankaaDoor

/- Keys' cubic by float64, and the document's call. -/
namespace Go.Proofs.YtjmjgokgjeankaaDoor
open Go.RowKit Ieee

theorem keys_bounds {P q : Int} (q0 : 1 ≤ q) (q1 : q ≤ 262144) (P0 : 0 ≤ P) (P1 : P ≤ 2 * q) :
    0 ≤ P * P ∧ P * P ≤ 274877906944 ∧ 0 ≤ P * P * P ∧ P * P * P ≤ 144115188075855872 ∧ 0 ≤ 5 * (P * P) * q ∧ 5 * (P * P) * q ≤ 360287970189639680 ∧ 0 ≤ 8 * P * (q * q) ∧ 8 * P * (q * q) ≤ 288230376151711744 := by
  obtain ⟨s0, s1, c0, c1⟩ := cubes q0 q1
  have P2 : P ≤ 524288 := by omega
  have a0 : 0 ≤ P * P := Int.mul_nonneg P0 P0
  have a1 : P * P ≤ 524288 * 524288 := Int.mul_le_mul P2 P2 P0 (by omega)
  have b0 : 0 ≤ P * P * P := Int.mul_nonneg a0 P0
  have b1 : P * P * P ≤ 524288 * 524288 * 524288 := Int.mul_le_mul a1 P2 P0 (by omega)
  have d0 : 0 ≤ 5 * (P * P) * q := Int.mul_nonneg (by omega) (by omega)
  have d1 : 5 * (P * P) * q ≤ 5 * (524288 * 524288) * 262144 := Int.mul_le_mul (by omega) q1 (by omega) (by omega)
  have g0 : 0 ≤ 8 * P * (q * q) := Int.mul_nonneg (by omega) (by omega)
  have g1 : 8 * P * (q * q) ≤ 8 * 524288 * 68719476736 := Int.mul_le_mul (by omega) s1 (by omega) (by omega)
  omega
end Go.Proofs.YtjmjgokgjeankaaDoor

/- The program's raw weights: Keys' cubic. -/
namespace Go.Proofs.YtjmjgokgjeankaaDoor
open Go.RowKit


theorem up_mul {a b A B : Int} (a0 : 0 ≤ a) (a1 : a ≤ A) (b0 : 0 ≤ b) (b1 : b ≤ B) : 0 ≤ a * b ∧ a * b ≤ A * B := ⟨Int.mul_nonneg a0 b0, Int.mul_le_mul a1 b1 b0 (by omega)⟩
set_option maxRecDepth 100000 in
theorem doubled_low (p q v : Int) (hv : lowK p q = v) (q0 : 1 ≤ q) (q1 : q ≤ 262144) (p0 : 0 ≤ p) (g : p < q) (w : World) :
    Calls Tryd.prog 38 #[.int .i64 p, .int .i64 q] w fun e w' => e = .returned (.int .i64 v) ∧ w = w' := by
  obtain ⟨a0, a1⟩ := up_mul (a := 3 * p) (A := 786432) (b := p) (B := 262144) (by omega) (by omega) p0 (by omega)
  obtain ⟨b0, b1⟩ := up_mul a0 a1 p0 (show p ≤ 262144 by omega)
  obtain ⟨c0, c1⟩ := up_mul (a := 5 * p) (A := 1310720) (b := p) (B := 262144) (by omega) (by omega) p0 (by omega)
  obtain ⟨d0, d1⟩ := up_mul c0 c1 (show 0 ≤ q by omega) q1
  obtain ⟨e0, e1⟩ := up_mul (a := 2 * q) (A := 524288) (b := q) (B := 262144) (by omega) (by omega) (by omega) q1
  obtain ⟨f0, f1⟩ := up_mul e0 e1 (show 0 ≤ q by omega) q1
  have HV := hide hv
  clear hv
  go_enter Tryd.func38, Tryd.ntmps38
  go_wp2
  go_ret
  exact ⟨ret_i64 (by rw [← HV.out]; unfold lowK; simp only [Int.mul_assoc]), rfl⟩
set_option maxRecDepth 100000 in
theorem doubled_high (p q v : Int) (hv : highK p q = v) (q0 : 1 ≤ q) (q1 : q ≤ 262144) (g : q ≤ p) (p1 : p < 2 * q) (w : World) :
    Calls Tryd.prog 38 #[.int .i64 p, .int .i64 q] w fun e w' => e = .returned (.int .i64 v) ∧ w = w' := by
  have p0 : 0 ≤ p := by omega
  have p2 : p ≤ 524288 := by omega
  obtain ⟨a0, a1⟩ := up_mul (a := p) (A := 524288) (b := p) (B := 524288) p0 p2 p0 p2
  obtain ⟨b0, b1⟩ := up_mul a0 a1 p0 p2
  obtain ⟨c0, c1⟩ := up_mul (a := 5 * p) (A := 2621440) (b := p) (B := 524288) (by omega) (by omega) p0 p2
  obtain ⟨d0, d1⟩ := up_mul c0 c1 (show 0 ≤ q by omega) q1
  obtain ⟨e0, e1⟩ := up_mul (a := 4 * q) (A := 1048576) (b := q) (B := 262144) (by omega) (by omega) (by omega) q1
  obtain ⟨f0, f1⟩ := up_mul e0 e1 (show 0 ≤ q by omega) q1
  obtain ⟨g0, g1⟩ := up_mul (a := 8 * p) (A := 4194304) (b := q) (B := 262144) (by omega) (by omega) (by omega) q1
  obtain ⟨h0, h1⟩ := up_mul g0 g1 (show 0 ≤ q by omega) q1
  have HV := hide hv
  clear hv
  go_enter Tryd.func38, Tryd.ntmps38
  go_wp2
  go_ret
  exact ⟨ret_i64 (by rw [← HV.out]; unfold highK; simp only [Int.mul_assoc]), rfl⟩
set_option maxRecDepth 100000 in
set_option maxHeartbeats 1000000 in
theorem keys_at (p q P : Int) (hP : absI p = P) (h0 : -9223372036854775808 < p) (h1 : p ≤ 9223372036854775807) (q0 : 1 ≤ q) (q1 : q ≤ 262144) (g0 : p < 2 * q) (g1 : -2 * q < p) (w : World) :
    Calls Tryd.prog 25 #[.int .i64 p, .int .i64 q] w fun e w' => e = .returned (.int .i64 (if P < q then divF (lowK P q * 1073741824) (2 * (q * q * q)) else divF (highK P q * 1073741824) (2 * (q * q * q)))) ∧ Below w.heap.size w w' := by
  have P0 : 0 ≤ P := by rw [← hP]; exact absI0 p
  have P1 : P < 2 * q := by rw [← hP]; unfold absI; split <;> omega
  obtain ⟨a0, a1, b0, b1, d0, d1, e0, e1⟩ := keys_bounds q0 q1 P0 (by omega)
  obtain ⟨s0, s1, c0, c1⟩ := cubes q0 q1
  obtain ⟨v, hv, v0, v1⟩ : ∃ v, (if P < q then lowK P q else highK P q) = v ∧ -9223372036854775808 ≤ v ∧ v ≤ 9223372036854775807 := by
    refine ⟨_, rfl, ?_⟩
    unfold lowK highK
    split <;> omega
  have hp : (decide (p < 0) = true ∧ -p = P) ∨ (decide (p < 0) = false ∧ p = P) := by
    unfold absI at hP
    by_cases h : p < 0
    · rw [if_pos h] at hP; exact Or.inl ⟨decide_eq_true h, hP⟩
    · rw [if_neg h] at hP; exact Or.inr ⟨decide_eq_false h, hP⟩
  clear hP
  have CD : ∀ w : World, Calls Tryd.prog 38 #[.int .i64 P, .int .i64 q] w fun e w' => e = .returned (.int .i64 v) ∧ w = w' := by
    intro w
    by_cases g : P < q
    · rw [if_pos g] at hv; exact doubled_low P q v hv q0 q1 P0 g w
    · rw [if_neg g] at hv; exact doubled_high P q v hv q0 q1 (by omega) P1 w
  have ez : (if P < q then divF (lowK P q * 1073741824) (2 * (q * q * q)) else divF (highK P q * 1073741824) (2 * (q * q * q))) = divF (v * 1073741824) (2 * q * q * q) := by
    rw [← hv, show 2 * q * q * q = 2 * (q * q * q) by simp only [Int.mul_assoc]]
    split <;> rfl
  rw [ez]
  have eq3 : 2 * q * q * q = 2 * (q * q * q) := by simp only [Int.mul_assoc]
  obtain ⟨f0, f1⟩ := up_mul (a := 2 * q) (A := 524288) (b := q) (B := 262144) (by omega) (by omega) (by omega) q1
  have CM := muldiv_to v 1073741824 (2 * q * q * q) _ rfl (by omega) (by omega) (by omega) (by omega) (by omega) (by omega)
  obtain ⟨t0, t1⟩ : 1 ≤ 2 * q * q * q ∧ 2 * q * q * q ≤ 36028797018963968 := by omega
  generalize divF (v * 1073741824) (2 * q * q * q) = z at *
  clear ez eq3 hv a0 a1 b0 b1 d0 d1 e0 e1 s0 s1 c0 c1 v0 v1
  rcases hp with ⟨hp, hP⟩ | ⟨hp, hP⟩
  · go_enter Tryd.func25, Tryd.ntmps25
    go_wp2_with (first
      | (go_at_call 38; (with_reducible refine (CD _).mono ?_); rintro e w1 ⟨rfl, rfl⟩)
      | (go_at_call 37; (with_reducible refine (CM _).mono ?_); rintro e w1 ⟨rfl, b1⟩))
    go_ret
    exact ⟨rfl, b1⟩
  · subst hP
    go_enter Tryd.func25, Tryd.ntmps25
    go_wp2_with (first
      | (go_at_call 38; (with_reducible refine (CD _).mono ?_); rintro e w1 ⟨rfl, rfl⟩)
      | (go_at_call 37; (with_reducible refine (CM _).mono ?_); rintro e w1 ⟨rfl, b1⟩))
    go_ret
    exact ⟨rfl, b1⟩
theorem keys_any (p q : Int) (h0 : -9223372036854775808 ≤ p) (h1 : p ≤ 9223372036854775807) (w : World) :
    Calls Tryd.prog 25 #[.int .i64 p, .int .i64 q] w fun e w' => e = .returned (.int .i64 (keysF p q)) ∧ Below w.heap.size w w' := by
  by_cases g : 1 ≤ q ∧ q ≤ 262144 ∧ p < 2 * q ∧ -2 * q < p
  · rw [show keysF p q = if absI p < q then divF (lowK (absI p) q * 1073741824) (2 * (q * q * q)) else divF (highK (absI p) q * 1073741824) (2 * (q * q * q)) from if_pos g]
    obtain ⟨q0, q1, g0, g1⟩ := g
    exact keys_at p q _ rfl (by omega) h1 q0 q1 g0 g1 w
  · rw [show keysF p q = 0 from if_neg g]
    by_cases g1 : q < 1
    · clear g
      go_enter Tryd.func25, Tryd.ntmps25
      go_wp2
      go_ret
      exact ⟨rfl, Below.refl _ _⟩
    by_cases g2 : 262144 < q
    · clear g
      go_enter Tryd.func25, Tryd.ntmps25
      go_wp2
      go_ret
      exact ⟨rfl, Below.refl _ _⟩
    by_cases g3 : p ≤ -2 * q
    · clear g
      go_enter Tryd.func25, Tryd.ntmps25
      go_wp2
      go_ret
      exact ⟨rfl, Below.refl _ _⟩
    have g4 : 2 * q ≤ p := by omega
    clear g
    go_enter Tryd.func25, Tryd.ntmps25
    go_wp2
    go_ret
    exact ⟨rfl, Below.refl _ _⟩
end Go.Proofs.YtjmjgokgjeankaaDoor

/- What each source sample weighs: the document's calls for one sample. -/
namespace Go.Proofs.YtjmjgokgjeankaaDoor
open Go.RowKit

def fracP (n m i j : Int) : Int := 2 * m * j - (2 * i + 1) * n + m
def fracQ (n m : Int) : Int := if n < m then 2 * m else 2 * n
/-- Is a source sample in the window? -/
def inW (f n m i j : Int) : Bool := if f = 0 then decide (i * n < (j + 1) * m) && decide (j * m < (i + 1) * n) else decide (fracP n m i j < (if f = 2 then 3 * fracQ n m else 2 * fracQ n m)) && decide (-(if f = 2 then 3 * fracQ n m else 2 * fracQ n m) < fracP n m i j)
def weightR (f n m i j : Int) : Int := if f = 0 then divF ((min ((i + 1) * n) ((j + 1) * m) - max (i * n) (j * m)) * 1073741824) n else if f = 1 then keysF (fracP n m i j) (fracQ n m) else lanczosF (fracP n m i j) (fracQ n m)
theorem mul_abs_le {x y A B : Int} (h0 : -A ≤ x) (h1 : x ≤ A) (k0 : 0 ≤ y) (k1 : y ≤ B) (hA : 0 ≤ A) : -(A * B) ≤ x * y ∧ x * y ≤ A * B := by
  have a : x * y ≤ A * y := Int.mul_le_mul_of_nonneg_right h1 k0
  have b : (-A) * y ≤ x * y := Int.mul_le_mul_of_nonneg_right h0 k0
  have c : A * y ≤ A * B := Int.mul_le_mul_of_nonneg_left k1 hA
  rw [Int.neg_mul] at b
  omega
theorem side_bounds {n m i j : Int} (n0 : 1 ≤ n) (n1 : n ≤ 65536) (m0 : 1 ≤ m) (m1 : m ≤ 65536) (i0 : 0 ≤ i) (i1 : i < m) (j0 : -1048576 ≤ j) (j1 : j ≤ 1048576) :
    (0 ≤ i * n ∧ i * n ≤ 4294967296) ∧ (0 ≤ (i + 1) * n ∧ (i + 1) * n ≤ 4294967296) ∧ (-68719476736 ≤ j * m ∧ j * m ≤ 68719476736) ∧ (-68719542272 ≤ (j + 1) * m ∧ (j + 1) * m ≤ 68719542272) ∧ (-137438953472 ≤ 2 * m * j ∧ 2 * m * j ≤ 137438953472) ∧ (0 ≤ (2 * i + 1) * n ∧ (2 * i + 1) * n ≤ 8589934592) := by
  have a := mul_abs_le (x := i) (y := n) (A := 65536) (B := 65536) (by omega) (by omega) (by omega) n1 (by omega)
  have a0 : 0 ≤ i * n := Int.mul_nonneg i0 (by omega)
  have b := mul_abs_le (x := i + 1) (y := n) (A := 65536) (B := 65536) (by omega) (by omega) (by omega) n1 (by omega)
  have b0 : 0 ≤ (i + 1) * n := Int.mul_nonneg (by omega) (by omega)
  have c := mul_abs_le (x := j) (y := m) (A := 1048576) (B := 65536) j0 j1 (by omega) m1 (by omega)
  have d := mul_abs_le (x := j + 1) (y := m) (A := 1048577) (B := 65536) (by omega) (by omega) (by omega) m1 (by omega)
  have e := mul_abs_le (x := j) (y := 2 * m) (A := 1048576) (B := 131072) j0 j1 (by omega) (by omega) (by omega)
  rw [Int.mul_comm j (2 * m)] at e
  have g := mul_abs_le (x := 2 * i + 1) (y := n) (A := 131072) (B := 65536) (by omega) (by omega) (by omega) n1 (by omega)
  have g0 : 0 ≤ (2 * i + 1) * n := Int.mul_nonneg (by omega) (by omega)
  omega
theorem fracQ_in {n m : Int} (n0 : 1 ≤ n) (n1 : n ≤ 65536) (m0 : 1 ≤ m) (m1 : m ≤ 65536) : 2 ≤ fracQ n m ∧ fracQ n m ≤ 131072 := by unfold fracQ; split <;> omega
end Go.Proofs.YtjmjgokgjeankaaDoor

/- What each source sample weighs: windows, and the document's rows. -/
namespace Go.Proofs.YtjmjgokgjeankaaDoor
open Go.RowKit


theorem inW_box {n m i j : Int} : inW 0 n m i j = true ↔ i * n < (j + 1) * m ∧ j * m < (i + 1) * n := by
  rw [show inW 0 n m i j = (decide (i * n < (j + 1) * m) && decide (j * m < (i + 1) * n)) from if_pos rfl]
  simp
theorem inW_far {f n m i j : Int} (hf : f ≠ 0) : inW f n m i j = true ↔ fracP n m i j < (if f = 2 then 3 * fracQ n m else 2 * fracQ n m) ∧ -(if f = 2 then 3 * fracQ n m else 2 * fracQ n m) < fracP n m i j := by
  rw [show inW f n m i j = (decide (fracP n m i j < (if f = 2 then 3 * fracQ n m else 2 * fracQ n m)) && decide (-(if f = 2 then 3 * fracQ n m else 2 * fracQ n m) < fracP n m i j)) from if_neg hf]
  simp
theorem reach_in {f n m : Int} (n0 : 1 ≤ n) (n1 : n ≤ 65536) (m0 : 1 ≤ m) (m1 : m ≤ 65536) : 2 * n + 2 * m ≤ (if f = 2 then 3 * fracQ n m else 2 * fracQ n m) ∧ (if f = 2 then 3 * fracQ n m else 2 * fracQ n m) ≤ 393216 := by
  unfold fracQ; split <;> split <;> omega
theorem frac_at (n m i j : Int) : fracP n m i j = 2 * (j * m) - 2 * (i * n) - n + m := by
  unfold fracP
  have e1 : 2 * m * j = 2 * (j * m) := by rw [Int.mul_assoc, Int.mul_comm m j]
  have e2 : (2 * i + 1) * n = 2 * (i * n) + n := by rw [Int.add_mul, Int.mul_assoc, Int.one_mul]
  rw [e1, e2]; omega
/-- The middle is in the window. -/
theorem inW_start {f n m i : Int} (n0 : 1 ≤ n) (n1 : n ≤ 65536) (m0 : 1 ≤ m) (m1 : m ≤ 65536) : inW f n m i (i * n / m) = true := by
  have e := Int.mul_ediv_add_emod (i * n) m
  have r0 := Int.emod_nonneg (i * n) (show m ≠ 0 by omega)
  have r1 := Int.emod_lt_of_pos (i * n) (show 0 < m by omega)
  rw [Int.mul_comm] at e
  have a1 : (i * n / m + 1) * m = i * n / m * m + m := by rw [Int.add_mul, Int.one_mul]
  have a2 : (i + 1) * n = i * n + n := by rw [Int.add_mul, Int.one_mul]
  by_cases hf : f = 0
  · subst hf
    rw [inW_box, a1, a2]
    omega
  · rw [inW_far hf, frac_at]
    have := reach_in (f := f) n0 n1 m0 m1
    omega
theorem inW_bound {f n m i j : Int} (n0 : 1 ≤ n) (n1 : n ≤ 65536) (m0 : 1 ≤ m) (m1 : m ≤ 65536) (i0 : 0 ≤ i) (i1 : i < m) (h : inW f n m i j = true) : -262144 < j ∧ j < 262144 := by
  have a0 : 0 ≤ i * n := Int.mul_nonneg i0 (by omega)
  have a1 : i * n ≤ i * 65536 := Int.mul_le_mul_of_nonneg_left n1 i0
  have up : 262144 ≤ j → 262144 * m ≤ j * m := fun g => Int.mul_le_mul_of_nonneg_right g (by omega)
  have dn : j ≤ -262144 → j * m ≤ -262144 * m := fun g => Int.mul_le_mul_of_nonneg_right g (by omega)
  by_cases hf : f = 0
  · subst hf
    rw [inW_box, Int.add_mul, Int.add_mul, Int.one_mul, Int.one_mul] at h
    constructor
    · by_cases g : -262144 < j
      · exact g
      · have := dn (by omega); omega
    · by_cases g : j < 262144
      · exact g
      · have := up (by omega); omega
  · rw [inW_far hf, frac_at] at h
    have := reach_in (f := f) n0 n1 m0 m1
    constructor
    · by_cases g : -262144 < j
      · exact g
      · have := dn (by omega); omega
    · by_cases g : j < 262144
      · exact g
      · have := up (by omega); omega
theorem inW_mid {f n m i a b c : Int} (m0 : 1 ≤ m) (h1 : a ≤ b) (h2 : b ≤ c) (ha : inW f n m i a = true) (hc : inW f n m i c = true) : inW f n m i b = true := by
  have l : a * m ≤ b * m := Int.mul_le_mul_of_nonneg_right h1 (by omega)
  have r : b * m ≤ c * m := Int.mul_le_mul_of_nonneg_right h2 (by omega)
  by_cases hf : f = 0
  · subst hf
    rw [inW_box, Int.add_mul, Int.add_mul, Int.one_mul, Int.one_mul] at *
    omega
  · rw [inW_far hf, frac_at] at *
    omega
/-- A window: the least sample, and how many there are. -/
def IsWin (f n m i j0 : Int) (c : Nat) : Prop := 0 < c ∧ inW f n m i (j0 - 1) = false ∧ (∀ k : Nat, k < c → inW f n m i (j0 + k) = true) ∧ inW f n m i (j0 + c) = false
/-- There is one alone. -/
theorem win_one {f n m i a b : Int} {c d : Nat} (m0 : 1 ≤ m) (h : IsWin f n m i a c) (g : IsWin f n m i b d) : a = b ∧ c = d := by
  obtain ⟨h0, h1, h2, h3⟩ := h
  obtain ⟨g0, g1, g2, g3⟩ := g
  have ha : inW f n m i a = true := by have := h2 0 h0; simpa using this
  have hb : inW f n m i b = true := by have := g2 0 g0; simpa using this
  have hal : inW f n m i (a + (c - 1 : Nat)) = true := h2 (c - 1) (by omega)
  have hbl : inW f n m i (b + (d - 1 : Nat)) = true := g2 (d - 1) (by omega)
  have no : ∀ {x y : Int}, inW f n m i x = false → inW f n m i y = true → x ≠ y := by
    rintro x y hx hy rfl; rw [hx] at hy; cases hy
  have ab : a = b := by
    by_cases q : a < b
    · exact absurd (inW_mid m0 (show a ≤ b - 1 by omega) (show b - 1 ≤ b by omega) ha hb) (by rw [g1]; decide)
    · by_cases q2 : b < a
      · exact absurd (inW_mid m0 (show b ≤ a - 1 by omega) (show a - 1 ≤ a by omega) hb ha) (by rw [h1]; decide)
      · omega
  subst ab
  refine ⟨rfl, ?_⟩
  by_cases q : c < d
  · have := g2 c q; rw [h3] at this; cases this
  · by_cases q2 : d < c
    · have := h2 d q2; rw [g3] at this; cases this
    · omega
/-- The weights of so many samples. -/
def rowR (f n m i j0 : Int) (c : Nat) : List Value := (List.range c).map fun k => Value.int .i64 (weightR f n m i (j0 + (k : Nat)))
theorem rowR_succ (f n m i j0 : Int) (c : Nat) : rowR f n m i j0 (c + 1) = rowR f n m i j0 c ++ [Value.int .i64 (weightR f n m i (j0 + (c : Nat)))] := by
  unfold rowR; rw [List.range_succ, List.map_append]; rfl
theorem rowR_len (f n m i j0 : Int) (c : Nat) : (rowR f n m i j0 c).length = c := by unfold rowR; rw [List.length_map, List.length_range]
theorem owns_below {B : Nat} {e : TypeId} {k : Nat} {v : Value} {n : Nat} {xs : List Value} {w w' : World} (h : w.ownsRow B e k v n xs) (hb : Below w.heap.size w w') : w'.ownsRow B e k v n xs := by
  refine ⟨h.1, ?_⟩
  rcases h.2 with h2 | ⟨g, cap, cur, hv, hB, hg, r⟩
  · exact .inl h2
  · refine .inr ⟨g, cap, cur, hv, hB, ?_, r⟩
    have hlt : g < w.heap.size := by
      rcases Nat.lt_or_ge g w.heap.size with hlt | hge
      · exact hlt
      · rw [Array.getElem?_eq_none hge] at hg; cases hg
    rw [hb.block g hlt]; exact hg
end Go.Proofs.YtjmjgokgjeankaaDoor

/- What each source sample weighs: the laws on rows, out of what the program's own calls answer. -/
namespace Go.Proofs.YtjmjgokgjeankaaDoor
open Go.RowKit


def MayP (f n m i : Int) : Prop := 0 ≤ f ∧ f ≤ 2 ∧ 1 ≤ n ∧ n ≤ 65536 ∧ 1 ≤ m ∧ m ≤ 65536 ∧ 0 ≤ i ∧ i < m
/-- What the program's table of filters holds. -/
def Kinds (w : World) : Prop :=
  w.cell? ⟨0, 0, none⟩ = some (.string ⟨#[98, 111, 120]⟩) ∧ w.cell? ⟨0, 1, none⟩ = some (.int .i64 0) ∧ w.cell? ⟨0, 2, none⟩ = some (.string ⟨#[99, 117, 98, 105, 99]⟩) ∧ w.cell? ⟨0, 3, none⟩ = some (.int .i64 2) ∧ w.cell? ⟨0, 4, none⟩ = some (.string ⟨#[108, 97, 110, 99, 122, 111, 115]⟩) ∧ w.cell? ⟨0, 5, none⟩ = some (.int .i64 3)
theorem cell_ltK {w : World} {b o : Nat} {v : Value} (h : w.cell? ⟨b, o, none⟩ = some v) : b < w.heap.size := by
  by_cases g : b < w.heap.size
  · exact g
  · have e : w.heap[b]? = none := Array.getElem?_eq_none (by omega)
    simp [World.cell?, e] at h
theorem kinds_below {w w1 : World} (h : Kinds w) (b : Below w.heap.size w w1) : Kinds w1 := by
  obtain ⟨c0, c1, c2, c3, c4, c5⟩ := h
  have lc := cell_ltK c0
  exact ⟨cb b lc c0, cb b lc c1, cb b lc c2, cb b lc c3, cb b lc c4, cb b lc c5⟩
/-- What the program's own calls are to answer. -/
def RowC : Prop := ∀ (f n m i : Int), MayP f n m i → ∀ w : World, Kinds w → Calls Tryd.prog 20 #[.int .i64 f, .int .i64 n, .int .i64 m, .int .i64 i] w fun e w' => ∃ (j0 : Int) (c : Nat) (v : Value), IsWin f n m i j0 c ∧ e = .returned (.tuple #[.int .i64 j0, v]) ∧ w'.ownsRow w.heap.size 2 1 v c (rowR f n m i j0 c) ∧ Below w.heap.size w w'
def KeysC : Prop := ∀ a b : Int, -9223372036854775808 ≤ a → a ≤ 9223372036854775807 → ∀ w : World, Calls Tryd.prog 25 #[.int .i64 a, .int .i64 b] w fun e w' => e = .returned (.int .i64 (keysF a b)) ∧ Below w.heap.size w w'
theorem rowR_get (f n m i j0 : Int) {c k : Nat} (h : k < c) : (rowR f n m i j0 c)[k]? = some (.int .i64 (weightR f n m i (j0 + (k : Nat)))) := by
  unfold rowR
  rw [List.getElem?_map, List.getElem?_range h]; rfl
theorem owns_form {w : World} {base : Nat} {e : TypeId} {size : Nat} {v : Value} {n : Nat} {xs : List Value} (h : w.ownsRow base e size v n xs) (hn : 0 < n) : ∃ g cap, v = .slice (some ⟨g, 0, none⟩) n cap ∧ g < w.heap.size := by
  rcases h.2 with ⟨_, h0⟩ | ⟨g, cap, cur, hv, hb, hg, _⟩
  · omega
  · refine ⟨g, cap, hv, ?_⟩
    rcases Nat.lt_or_ge g w.heap.size with hlt | hge
    · exact hlt
    · rw [Array.getElem?_eq_none hge] at hg; cases hg
theorem owns_cell {w : World} {base : Nat} {e : TypeId} {f n m i j0 : Int} {g c cap k : Nat} (h : w.ownsRow base e 1 (.slice (some ⟨g, 0, none⟩) c cap) c (rowR f n m i j0 c)) (hk : k < c) : w.cell? ⟨g, k, none⟩ = some (.int .i64 (weightR f n m i (j0 + (k : Nat)))) := by
  have := h.cells (g := g) rfl k _ (rowR_get f n m i j0 hk)
  have e : ((⟨g, 0, none⟩ : Addr).add k) = ⟨g, k, none⟩ := by
    unfold Addr.add
    by_cases hk0 : k = 0
    · subst hk0; rfl
    · simp [hk0]
  rw [e] at this
  exact this
theorem rlives (CR : RowC) (CK : KeysC) (w : World) (hk : Kinds w) : Calls Tryd.prog 15 #[] w fun e w' => e = .returned (.bool true) ∧ Below w.heap.size w w' := by
  have C1 := CR 0 4 2 1 (by unfold MayP; omega)
  have k1 : keysF 0 1 = 1073741824 := by decide +kernel
  have k2 : keysF 1 2 = 603979776 := by decide +kernel
  have C2 := CK 0 1 (by omega) (by omega)
  have C3 := CK 1 2 (by omega) (by omega)
  rw [k1] at C2
  rw [k2] at C3
  have W : IsWin 0 4 2 1 2 2 := by
    refine ⟨by omega, by decide, ?_, by decide⟩
    intro k hk
    match k, hk with
    | 0, _ => decide
    | 1, _ => decide
  have u0 : weightR 0 4 2 1 (2 + ((0 : Nat) : Int)) = 536870912 := by decide +kernel
  have u1 : weightR 0 4 2 1 (2 + ((1 : Nat) : Int)) = 536870912 := by decide +kernel
  have WH := hide W
  clear W k1 k2
  go_enter Tryd.func15, Tryd.ntmps15
  go_upto_region 2 with (go_at_call 20; (with_reducible refine (C1 _ hk).mono ?_); rintro e w1 ⟨j0, c, v, hwin, rfl, hown, b1⟩)
  obtain ⟨rfl, rfl⟩ := win_one (by omega) hwin WH.out
  obtain ⟨g, cap, rfl, hlt⟩ := owns_form hown (by omega)
  have q0 : w1.cell? ⟨g, 0, none⟩ = some (.int .i64 536870912) := by rw [← u0]; exact owns_cell hown (by omega)
  have q1 : w1.cell? ⟨g, 1, none⟩ = some (.int .i64 536870912) := by rw [← u1]; exact owns_cell hown (by omega)
  clear hown hwin u0 u1
  go_wp2_with (first
    | (go_at_call 25; (with_reducible refine (C2 _).mono ?_); rintro e w2 ⟨rfl, b2⟩)
    | (go_at_call 25; (with_reducible refine (C3 _).mono ?_); rintro e w3 ⟨rfl, b3⟩))
  go_ret
  exact ⟨rfl, bt (bt b1 b2) b3⟩
end Go.Proofs.YtjmjgokgjeankaaDoor
