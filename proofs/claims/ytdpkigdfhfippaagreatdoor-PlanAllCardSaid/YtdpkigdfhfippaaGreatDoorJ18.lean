/- Parts, joined. -/
import Derived.Test.YtdpkigdfhfippaaGreatDoorJ17
import Derived.Test.YtdpkigdfhfippaaGreatDoorJ10
/- The program's raw weights: Keys' cubic. -/
namespace Go.Proofs.YtdpkigdfhfippaaGreatDoor
open Go.RowKit


theorem up_mul {a b A B : Int} (a0 : 0 ≤ a) (a1 : a ≤ A) (b0 : 0 ≤ b) (b1 : b ≤ B) : 0 ≤ a * b ∧ a * b ≤ A * B := ⟨Int.mul_nonneg a0 b0, Int.mul_le_mul a1 b1 b0 (by omega)⟩
set_option maxRecDepth 100000 in
theorem doubled_low (p q v : Int) (hv : lowK p q = v) (q0 : 1 ≤ q) (q1 : q ≤ 262144) (p0 : 0 ≤ p) (g : p < q) (w : World) :
    Calls Tryz.prog 98 #[.int .i64 p, .int .i64 q] w fun e w' => e = .returned (.int .i64 v) ∧ w = w' := by
  obtain ⟨a0, a1⟩ := up_mul (a := 3 * p) (A := 786432) (b := p) (B := 262144) (by omega) (by omega) p0 (by omega)
  obtain ⟨b0, b1⟩ := up_mul a0 a1 p0 (show p ≤ 262144 by omega)
  obtain ⟨c0, c1⟩ := up_mul (a := 5 * p) (A := 1310720) (b := p) (B := 262144) (by omega) (by omega) p0 (by omega)
  obtain ⟨d0, d1⟩ := up_mul c0 c1 (show 0 ≤ q by omega) q1
  obtain ⟨e0, e1⟩ := up_mul (a := 2 * q) (A := 524288) (b := q) (B := 262144) (by omega) (by omega) (by omega) q1
  obtain ⟨f0, f1⟩ := up_mul e0 e1 (show 0 ≤ q by omega) q1
  have HV := hide hv
  clear hv
  go_enter Tryz.func98, Tryz.ntmps98
  go_wp2
  go_ret
  exact ⟨ret_i64 (by rw [← HV.out]; unfold lowK; simp only [Int.mul_assoc]), rfl⟩
set_option maxRecDepth 100000 in
theorem doubled_high (p q v : Int) (hv : highK p q = v) (q0 : 1 ≤ q) (q1 : q ≤ 262144) (g : q ≤ p) (p1 : p < 2 * q) (w : World) :
    Calls Tryz.prog 98 #[.int .i64 p, .int .i64 q] w fun e w' => e = .returned (.int .i64 v) ∧ w = w' := by
  have p0 : 0 ≤ p := by omega
  have p2 : p ≤ 524288 := by omega
  obtain ⟨a0, a1⟩ := up_mul (a := p) (A := 524288) (b := p) (B := 524288) p0 p2 p0 p2
  obtain ⟨b0, b1⟩ := up_mul a0 a1 p0 p2
  obtain ⟨c0, c1⟩ := up_mul (a := 5 * p) (A := 2621440) (b := p) (B := 524288) (by omega) (by omega) p0 p2
  obtain ⟨d0, d1⟩ := up_mul c0 c1 (show 0 ≤ q by omega) q1
  obtain ⟨e0, e1⟩ := up_mul (a := 4 * q) (A := 1048576) (b := q) (B := 262144) (by omega) (by omega) (by omega) q1
  obtain ⟨f0, f1⟩ := up_mul e0 e1 (show 0 ≤ q by omega) q1
  obtain ⟨g0, g1⟩ := up_mul (a := 8 * p) (A := 4194304) (b := q) (B := 262144) (by omega) (by omega) (by omega) q1
  obtain ⟨h0, h1⟩ := up_mul g0 g1 (show 0 ≤ q by omega) q1
  have HV := hide hv
  clear hv
  go_enter Tryz.func98, Tryz.ntmps98
  go_wp2
  go_ret
  exact ⟨ret_i64 (by rw [← HV.out]; unfold highK; simp only [Int.mul_assoc]), rfl⟩
set_option maxRecDepth 100000 in
set_option maxHeartbeats 1000000 in
theorem keys_at (p q P : Int) (hP : absI p = P) (h0 : -9223372036854775808 < p) (h1 : p ≤ 9223372036854775807) (q0 : 1 ≤ q) (q1 : q ≤ 262144) (g0 : p < 2 * q) (g1 : -2 * q < p) (w : World) :
    Calls Tryz.prog 72 #[.int .i64 p, .int .i64 q] w fun e w' => e = .returned (.int .i64 (if P < q then divF (lowK P q * 1073741824) (2 * (q * q * q)) else divF (highK P q * 1073741824) (2 * (q * q * q)))) ∧ Below w.heap.size w w' := by
  have P0 : 0 ≤ P := by rw [← hP]; exact absI0 p
  have P1 : P < 2 * q := by rw [← hP]; unfold absI; split <;> omega
  obtain ⟨a0, a1, b0, b1, d0, d1, e0, e1⟩ := keys_bounds q0 q1 P0 (by omega)
  obtain ⟨s0, s1, c0, c1⟩ := cubes q0 q1
  obtain ⟨v, hv, v0, v1⟩ : ∃ v, (if P < q then lowK P q else highK P q) = v ∧ -9223372036854775808 ≤ v ∧ v ≤ 9223372036854775807 := by
    refine ⟨_, rfl, ?_⟩
    unfold lowK highK
    split <;> omega
  have hp : (decide (p < 0) = true ∧ -p = P) ∨ (decide (p < 0) = false ∧ p = P) := by
    unfold absI at hP
    by_cases h : p < 0
    · rw [if_pos h] at hP; exact Or.inl ⟨decide_eq_true h, hP⟩
    · rw [if_neg h] at hP; exact Or.inr ⟨decide_eq_false h, hP⟩
  clear hP
  have CD : ∀ w : World, Calls Tryz.prog 98 #[.int .i64 P, .int .i64 q] w fun e w' => e = .returned (.int .i64 v) ∧ w = w' := by
    intro w
    by_cases g : P < q
    · rw [if_pos g] at hv; exact doubled_low P q v hv q0 q1 P0 g w
    · rw [if_neg g] at hv; exact doubled_high P q v hv q0 q1 (by omega) P1 w
  have ez : (if P < q then divF (lowK P q * 1073741824) (2 * (q * q * q)) else divF (highK P q * 1073741824) (2 * (q * q * q))) = divF (v * 1073741824) (2 * q * q * q) := by
    rw [← hv, show 2 * q * q * q = 2 * (q * q * q) by simp only [Int.mul_assoc]]
    split <;> rfl
  rw [ez]
  have eq3 : 2 * q * q * q = 2 * (q * q * q) := by simp only [Int.mul_assoc]
  obtain ⟨f0, f1⟩ := up_mul (a := 2 * q) (A := 524288) (b := q) (B := 262144) (by omega) (by omega) (by omega) q1
  have CM := muldiv_to v 1073741824 (2 * q * q * q) _ rfl (by omega) (by omega) (by omega) (by omega) (by omega) (by omega)
  obtain ⟨t0, t1⟩ : 1 ≤ 2 * q * q * q ∧ 2 * q * q * q ≤ 36028797018963968 := by omega
  generalize divF (v * 1073741824) (2 * q * q * q) = z at *
  clear ez eq3 hv a0 a1 b0 b1 d0 d1 e0 e1 s0 s1 c0 c1 v0 v1
  rcases hp with ⟨hp, hP⟩ | ⟨hp, hP⟩
  · go_enter Tryz.func72, Tryz.ntmps72
    go_wp2_with (first
      | (go_at_call 98; (with_reducible refine (CD _).mono ?_); rintro e w1 ⟨rfl, rfl⟩)
      | (go_at_call 97; (with_reducible refine (CM _).mono ?_); rintro e w1 ⟨rfl, b1⟩))
    go_ret
    exact ⟨rfl, b1⟩
  · subst hP
    go_enter Tryz.func72, Tryz.ntmps72
    go_wp2_with (first
      | (go_at_call 98; (with_reducible refine (CD _).mono ?_); rintro e w1 ⟨rfl, rfl⟩)
      | (go_at_call 97; (with_reducible refine (CM _).mono ?_); rintro e w1 ⟨rfl, b1⟩))
    go_ret
    exact ⟨rfl, b1⟩
theorem keys_any (p q : Int) (h0 : -9223372036854775808 ≤ p) (h1 : p ≤ 9223372036854775807) (w : World) :
    Calls Tryz.prog 72 #[.int .i64 p, .int .i64 q] w fun e w' => e = .returned (.int .i64 (keysF p q)) ∧ Below w.heap.size w w' := by
  by_cases g : 1 ≤ q ∧ q ≤ 262144 ∧ p < 2 * q ∧ -2 * q < p
  · rw [show keysF p q = if absI p < q then divF (lowK (absI p) q * 1073741824) (2 * (q * q * q)) else divF (highK (absI p) q * 1073741824) (2 * (q * q * q)) from if_pos g]
    obtain ⟨q0, q1, g0, g1⟩ := g
    exact keys_at p q _ rfl (by omega) h1 q0 q1 g0 g1 w
  · rw [show keysF p q = 0 from if_neg g]
    by_cases g1 : q < 1
    · clear g
      go_enter Tryz.func72, Tryz.ntmps72
      go_wp2
      go_ret
      exact ⟨rfl, Below.refl _ _⟩
    by_cases g2 : 262144 < q
    · clear g
      go_enter Tryz.func72, Tryz.ntmps72
      go_wp2
      go_ret
      exact ⟨rfl, Below.refl _ _⟩
    by_cases g3 : p ≤ -2 * q
    · clear g
      go_enter Tryz.func72, Tryz.ntmps72
      go_wp2
      go_ret
      exact ⟨rfl, Below.refl _ _⟩
    have g4 : 2 * q ≤ p := by omega
    clear g
    go_enter Tryz.func72, Tryz.ntmps72
    go_wp2
    go_ret
    exact ⟨rfl, Below.refl _ _⟩
end Go.Proofs.YtdpkigdfhfippaaGreatDoor

/- What each source sample weighs: the document's calls for one sample. -/
namespace Go.Proofs.YtdpkigdfhfippaaGreatDoor
open Go.RowKit

def fracP (n m i j : Int) : Int := 2 * m * j - (2 * i + 1) * n + m
def fracQ (n m : Int) : Int := if n < m then 2 * m else 2 * n
/-- Is a source sample in the window? -/
def inW (f n m i j : Int) : Bool := if f = 0 then decide (i * n < (j + 1) * m) && decide (j * m < (i + 1) * n) else decide (fracP n m i j < (if f = 2 then 3 * fracQ n m else 2 * fracQ n m)) && decide (-(if f = 2 then 3 * fracQ n m else 2 * fracQ n m) < fracP n m i j)
def weightR (f n m i j : Int) : Int := if f = 0 then divF ((min ((i + 1) * n) ((j + 1) * m) - max (i * n) (j * m)) * 1073741824) n else if f = 1 then keysF (fracP n m i j) (fracQ n m) else lanczosF (fracP n m i j) (fracQ n m)
theorem mul_abs_le {x y A B : Int} (h0 : -A ≤ x) (h1 : x ≤ A) (k0 : 0 ≤ y) (k1 : y ≤ B) (hA : 0 ≤ A) : -(A * B) ≤ x * y ∧ x * y ≤ A * B := by
  have a : x * y ≤ A * y := Int.mul_le_mul_of_nonneg_right h1 k0
  have b : (-A) * y ≤ x * y := Int.mul_le_mul_of_nonneg_right h0 k0
  have c : A * y ≤ A * B := Int.mul_le_mul_of_nonneg_left k1 hA
  rw [Int.neg_mul] at b
  omega
theorem side_bounds {n m i j : Int} (n0 : 1 ≤ n) (n1 : n ≤ 65536) (m0 : 1 ≤ m) (m1 : m ≤ 65536) (i0 : 0 ≤ i) (i1 : i < m) (j0 : -1048576 ≤ j) (j1 : j ≤ 1048576) :
    (0 ≤ i * n ∧ i * n ≤ 4294967296) ∧ (0 ≤ (i + 1) * n ∧ (i + 1) * n ≤ 4294967296) ∧ (-68719476736 ≤ j * m ∧ j * m ≤ 68719476736) ∧ (-68719542272 ≤ (j + 1) * m ∧ (j + 1) * m ≤ 68719542272) ∧ (-137438953472 ≤ 2 * m * j ∧ 2 * m * j ≤ 137438953472) ∧ (0 ≤ (2 * i + 1) * n ∧ (2 * i + 1) * n ≤ 8589934592) := by
  have a := mul_abs_le (x := i) (y := n) (A := 65536) (B := 65536) (by omega) (by omega) (by omega) n1 (by omega)
  have a0 : 0 ≤ i * n := Int.mul_nonneg i0 (by omega)
  have b := mul_abs_le (x := i + 1) (y := n) (A := 65536) (B := 65536) (by omega) (by omega) (by omega) n1 (by omega)
  have b0 : 0 ≤ (i + 1) * n := Int.mul_nonneg (by omega) (by omega)
  have c := mul_abs_le (x := j) (y := m) (A := 1048576) (B := 65536) j0 j1 (by omega) m1 (by omega)
  have d := mul_abs_le (x := j + 1) (y := m) (A := 1048577) (B := 65536) (by omega) (by omega) (by omega) m1 (by omega)
  have e := mul_abs_le (x := j) (y := 2 * m) (A := 1048576) (B := 131072) j0 j1 (by omega) (by omega) (by omega)
  rw [Int.mul_comm j (2 * m)] at e
  have g := mul_abs_le (x := 2 * i + 1) (y := n) (A := 131072) (B := 65536) (by omega) (by omega) (by omega) n1 (by omega)
  have g0 : 0 ≤ (2 * i + 1) * n := Int.mul_nonneg (by omega) (by omega)
  omega
theorem fracQ_in {n m : Int} (n0 : 1 ≤ n) (n1 : n ≤ 65536) (m0 : 1 ≤ m) (m1 : m ≤ 65536) : 2 ≤ fracQ n m ∧ fracQ n m ≤ 131072 := by unfold fracQ; split <;> omega
theorem fracP_in {n m i j : Int} (n0 : 1 ≤ n) (n1 : n ≤ 65536) (m0 : 1 ≤ m) (m1 : m ≤ 65536) (i0 : 0 ≤ i) (i1 : i < m) (j0 : -1048576 ≤ j) (j1 : j ≤ 1048576) : -200000000000 ≤ fracP n m i j ∧ fracP n m i j ≤ 200000000000 := by
  obtain ⟨_, _, _, _, e, g⟩ := side_bounds n0 n1 m0 m1 i0 i1 j0 j1
  unfold fracP; omega
theorem reffrac_any (n m i j : Int) (n0 : 1 ≤ n) (n1 : n ≤ 65536) (m0 : 1 ≤ m) (m1 : m ≤ 65536) (i0 : 0 ≤ i) (i1 : i < m) (j0 : -1048576 ≤ j) (j1 : j ≤ 1048576) (w : World) :
    Calls Tryz.prog 99 #[.int .i64 n, .int .i64 m, .int .i64 i, .int .i64 j] w fun e w' => e = .returned (.tuple #[.int .i64 (fracP n m i j), .int .i64 (fracQ n m)]) ∧ Below w.heap.size w w' := by
  obtain ⟨_, _, _, _, ⟨e0, e1⟩, ⟨g0, g1⟩⟩ := side_bounds n0 n1 m0 m1 i0 i1 j0 j1
  unfold fracP fracQ
  by_cases g : n < m
  · rw [if_pos g]
    go_enter Tryz.func99, Tryz.ntmps99
    go_wp2
    exact bodyPost_ret (v := .tuple #[.int .i64 (2 * m * j - (2 * i + 1) * n + m), .int .i64 (2 * m)]) (by simp [results, Tryz.results99, go_sem]) rfl ⟨rfl, Below.refl _ _⟩
  · rw [if_neg g]
    go_enter Tryz.func99, Tryz.ntmps99
    go_wp2
    exact bodyPost_ret (v := .tuple #[.int .i64 (2 * m * j - (2 * i + 1) * n + m), .int .i64 (2 * n)]) (by simp [results, Tryz.results99, go_sem]) rfl ⟨rfl, Below.refl _ _⟩
theorem refin_box (n m i j : Int) (n0 : 1 ≤ n) (n1 : n ≤ 65536) (m0 : 1 ≤ m) (m1 : m ≤ 65536) (i0 : 0 ≤ i) (i1 : i < m) (j0 : -1048576 ≤ j) (j1 : j ≤ 1048576) (w : World) :
    Calls Tryz.prog 74 #[.int .i64 0, .int .i64 n, .int .i64 m, .int .i64 i, .int .i64 j] w fun e w' => e = .returned (.bool (inW 0 n m i j)) ∧ Below w.heap.size w w' := by
  obtain ⟨⟨a0, a1⟩, ⟨b0, b1⟩, ⟨c0, c1⟩, ⟨d0, d1⟩, _, _⟩ := side_bounds n0 n1 m0 m1 i0 i1 j0 j1
  rw [show inW 0 n m i j = (decide (i * n < (j + 1) * m) && decide (j * m < (i + 1) * n)) from if_pos rfl]
  by_cases g : i * n < (j + 1) * m
  · rw [decide_eq_true g, Bool.true_and]
    go_enter Tryz.func74, Tryz.ntmps74
    go_wp2
    go_ret
    exact ⟨rfl, Below.refl _ _⟩
  · rw [decide_eq_false g, Bool.false_and]
    go_enter Tryz.func74, Tryz.ntmps74
    go_wp2
    go_ret
    exact ⟨rfl, Below.refl _ _⟩
theorem refin_far (f n m i j : Int) (hf : f = 1 ∨ f = 2) (n0 : 1 ≤ n) (n1 : n ≤ 65536) (m0 : 1 ≤ m) (m1 : m ≤ 65536) (i0 : 0 ≤ i) (i1 : i < m) (j0 : -1048576 ≤ j) (j1 : j ≤ 1048576) (w : World) :
    Calls Tryz.prog 74 #[.int .i64 f, .int .i64 n, .int .i64 m, .int .i64 i, .int .i64 j] w fun e w' => e = .returned (.bool (inW f n m i j)) ∧ Below w.heap.size w w' := by
  have CF := reffrac_any n m i j n0 n1 m0 m1 i0 i1 j0 j1
  obtain ⟨p0, p1⟩ := fracP_in n0 n1 m0 m1 i0 i1 j0 j1
  obtain ⟨q0, q1⟩ := fracQ_in n0 n1 m0 m1
  have e : inW f n m i j = (decide (fracP n m i j < (if f = 2 then 3 * fracQ n m else 2 * fracQ n m)) && decide (-(if f = 2 then 3 * fracQ n m else 2 * fracQ n m) < fracP n m i j)) := if_neg (by omega)
  rw [e]
  clear e
  generalize fracP n m i j = p at *
  generalize fracQ n m = q at *
  rcases hf with rfl | rfl
  · rw [if_neg (by omega)]
    by_cases g : p < 2 * q
    · rw [decide_eq_true g, Bool.true_and]
      go_enter Tryz.func74, Tryz.ntmps74
      go_wp2_with (go_at_call 99; (with_reducible refine (CF _).mono ?_); rintro e w1 ⟨rfl, b1⟩)
      go_ret
      exact ⟨rfl, b1⟩
    · rw [decide_eq_false g, Bool.false_and]
      go_enter Tryz.func74, Tryz.ntmps74
      go_wp2_with (go_at_call 99; (with_reducible refine (CF _).mono ?_); rintro e w1 ⟨rfl, b1⟩)
      go_ret
      exact ⟨rfl, b1⟩
  · rw [if_pos rfl]
    by_cases g : p < 3 * q
    · rw [decide_eq_true g, Bool.true_and]
      go_enter Tryz.func74, Tryz.ntmps74
      go_wp2_with (go_at_call 99; (with_reducible refine (CF _).mono ?_); rintro e w1 ⟨rfl, b1⟩)
      go_ret
      exact ⟨rfl, b1⟩
    · rw [decide_eq_false g, Bool.false_and]
      go_enter Tryz.func74, Tryz.ntmps74
      go_wp2_with (go_at_call 99; (with_reducible refine (CF _).mono ?_); rintro e w1 ⟨rfl, b1⟩)
      go_ret
      exact ⟨rfl, b1⟩
theorem refin_any (f n m i j : Int) (f0 : 0 ≤ f) (f1 : f ≤ 2) (n0 : 1 ≤ n) (n1 : n ≤ 65536) (m0 : 1 ≤ m) (m1 : m ≤ 65536) (i0 : 0 ≤ i) (i1 : i < m) (j0 : -1048576 ≤ j) (j1 : j ≤ 1048576) (w : World) :
    Calls Tryz.prog 74 #[.int .i64 f, .int .i64 n, .int .i64 m, .int .i64 i, .int .i64 j] w fun e w' => e = .returned (.bool (inW f n m i j)) ∧ Below w.heap.size w w' := by
  by_cases h : f = 0
  · subst h; exact refin_box n m i j n0 n1 m0 m1 i0 i1 j0 j1 w
  · exact refin_far f n m i j (by omega) n0 n1 m0 m1 i0 i1 j0 j1 w
theorem refweight_any (f n m i j : Int) (f0 : 0 ≤ f) (f1 : f ≤ 2) (n0 : 1 ≤ n) (n1 : n ≤ 65536) (m0 : 1 ≤ m) (m1 : m ≤ 65536) (i0 : 0 ≤ i) (i1 : i < m) (j0 : -1048576 ≤ j) (j1 : j ≤ 1048576) (w : World) :
    Calls Tryz.prog 75 #[.int .i64 f, .int .i64 n, .int .i64 m, .int .i64 i, .int .i64 j] w fun e w' => e = .returned (.int .i64 (weightR f n m i j)) ∧ Below w.heap.size w w' := by
  obtain ⟨⟨a0, a1⟩, ⟨b0, b1⟩, ⟨c0, c1⟩, ⟨d0, d1⟩, _, _⟩ := side_bounds n0 n1 m0 m1 i0 i1 j0 j1
  by_cases h : f = 0
  · subst h
    obtain ⟨lo, hlo⟩ : ∃ lo, max (i * n) (j * m) = lo := ⟨_, rfl⟩
    obtain ⟨hi', hhi⟩ : ∃ hi', min ((i + 1) * n) ((j + 1) * m) = hi' := ⟨_, rfl⟩
    have CM := refmuldiv_to (hi' - lo) 1073741824 n _ rfl (by omega) (by omega) (by omega) (by omega) (by omega) (by omega)
    rw [show weightR 0 n m i j = divF ((hi' - lo) * 1073741824) n by rw [← hlo, ← hhi]; exact if_pos rfl]
    generalize divF ((hi' - lo) * 1073741824) n = z at *
    have l : (decide (i * n < j * m) = true ∧ lo = j * m) ∨ (decide (i * n < j * m) = false ∧ lo = i * n) := by
      by_cases g : i * n < j * m
      · exact Or.inl ⟨decide_eq_true g, by omega⟩
      · exact Or.inr ⟨decide_eq_false g, by omega⟩
    have r : (decide ((j + 1) * m < (i + 1) * n) = true ∧ hi' = (j + 1) * m) ∨ (decide ((j + 1) * m < (i + 1) * n) = false ∧ hi' = (i + 1) * n) := by
      by_cases g : (j + 1) * m < (i + 1) * n
      · exact Or.inl ⟨decide_eq_true g, by omega⟩
      · exact Or.inr ⟨decide_eq_false g, by omega⟩
    clear hlo hhi
    rcases l with ⟨l, rfl⟩ | ⟨l, rfl⟩ <;> rcases r with ⟨r, rfl⟩ | ⟨r, rfl⟩
    all_goals
      go_enter Tryz.func75, Tryz.ntmps75
      go_wp2_with (go_at_call 62; (with_reducible refine (CM _).mono ?_); rintro e w1 ⟨rfl, b1⟩)
      go_ret
      exact ⟨rfl, b1⟩
  · have CF := reffrac_any n m i j n0 n1 m0 m1 i0 i1 j0 j1
    obtain ⟨p0, p1⟩ := fracP_in n0 n1 m0 m1 i0 i1 j0 j1
    by_cases h1 : f = 1
    · subst h1
      rw [show weightR 1 n m i j = keysF (fracP n m i j) (fracQ n m) by unfold weightR; rw [if_neg (by omega), if_pos rfl]]
      have CK := refkeys_any (fracP n m i j) (fracQ n m) (by omega) (by omega)
      generalize keysF (fracP n m i j) (fracQ n m) = z at *
      generalize fracP n m i j = p at *
      generalize fracQ n m = q at *
      go_enter Tryz.func75, Tryz.ntmps75
      go_wp2_with (first
        | (go_at_call 99; (with_reducible refine (CF _).mono ?_); rintro e w1 ⟨rfl, b1⟩)
        | (go_at_call 100; (with_reducible refine (CK _).mono ?_); rintro e w2 ⟨rfl, b2⟩))
      go_ret
      exact ⟨rfl, bt b1 b2⟩
    · obtain rfl : f = 2 := by omega
      rw [show weightR 2 n m i j = lanczosF (fracP n m i j) (fracQ n m) by unfold weightR; rw [if_neg (by omega), if_neg (by omega)]]
      have CK := reflanczos_any (fracP n m i j) (fracQ n m) (by omega) (by omega)
      generalize lanczosF (fracP n m i j) (fracQ n m) = z at *
      generalize fracP n m i j = p at *
      generalize fracQ n m = q at *
      go_enter Tryz.func75, Tryz.ntmps75
      go_wp2_with (first
        | (go_at_call 99; (with_reducible refine (CF _).mono ?_); rintro e w1 ⟨rfl, b1⟩)
        | (go_at_call 101; (with_reducible refine (CK _).mono ?_); rintro e w2 ⟨rfl, b2⟩))
      go_ret
      exact ⟨rfl, bt b1 b2⟩
end Go.Proofs.YtdpkigdfhfippaaGreatDoor
