/- What each source sample weighs: the document's calls for one sample. -/
import Derived.Test.YtjmdknbbgmajoaaDoorS05B
namespace Go.Proofs.YtjmdknbbgmajoaaDoor
open Go.RowKit


def mayR (f n m i : Int) : Bool := decide (0 ≤ f) && decide (f ≤ 2) && decide (1 ≤ n) && decide (n ≤ 65536) && decide (1 ≤ m) && decide (m ≤ 65536) && decide (0 ≤ i) && decide (i < m)
def fracP (n m i j : Int) : Int := 2 * m * j - (2 * i + 1) * n + m
def fracQ (n m : Int) : Int := if n < m then 2 * m else 2 * n
/-- Is a source sample in the window? -/
def inW (f n m i j : Int) : Bool := if f = 0 then decide (i * n < (j + 1) * m) && decide (j * m < (i + 1) * n) else decide (fracP n m i j < (if f = 2 then 3 * fracQ n m else 2 * fracQ n m)) && decide (-(if f = 2 then 3 * fracQ n m else 2 * fracQ n m) < fracP n m i j)
def weightR (f n m i j : Int) : Int := if f = 0 then divF ((min ((i + 1) * n) ((j + 1) * m) - max (i * n) (j * m)) * 1073741824) n else if f = 1 then keysF (fracP n m i j) (fracQ n m) else lanczosF (fracP n m i j) (fracQ n m)
theorem mul_abs_le {x y A B : Int} (h0 : -A ≤ x) (h1 : x ≤ A) (k0 : 0 ≤ y) (k1 : y ≤ B) (hA : 0 ≤ A) : -(A * B) ≤ x * y ∧ x * y ≤ A * B := by
  have a : x * y ≤ A * y := Int.mul_le_mul_of_nonneg_right h1 k0
  have b : (-A) * y ≤ x * y := Int.mul_le_mul_of_nonneg_right h0 k0
  have c : A * y ≤ A * B := Int.mul_le_mul_of_nonneg_left k1 hA
  rw [Int.neg_mul] at b
  omega
theorem side_bounds {n m i j : Int} (n0 : 1 ≤ n) (n1 : n ≤ 65536) (m0 : 1 ≤ m) (m1 : m ≤ 65536) (i0 : 0 ≤ i) (i1 : i < m) (j0 : -1048576 ≤ j) (j1 : j ≤ 1048576) :
    (0 ≤ i * n ∧ i * n ≤ 4294967296) ∧ (0 ≤ (i + 1) * n ∧ (i + 1) * n ≤ 4294967296) ∧ (-68719476736 ≤ j * m ∧ j * m ≤ 68719476736) ∧ (-68719542272 ≤ (j + 1) * m ∧ (j + 1) * m ≤ 68719542272) ∧ (-137438953472 ≤ 2 * m * j ∧ 2 * m * j ≤ 137438953472) ∧ (0 ≤ (2 * i + 1) * n ∧ (2 * i + 1) * n ≤ 8589934592) := by
  have a := mul_abs_le (x := i) (y := n) (A := 65536) (B := 65536) (by omega) (by omega) (by omega) n1 (by omega)
  have a0 : 0 ≤ i * n := Int.mul_nonneg i0 (by omega)
  have b := mul_abs_le (x := i + 1) (y := n) (A := 65536) (B := 65536) (by omega) (by omega) (by omega) n1 (by omega)
  have b0 : 0 ≤ (i + 1) * n := Int.mul_nonneg (by omega) (by omega)
  have c := mul_abs_le (x := j) (y := m) (A := 1048576) (B := 65536) j0 j1 (by omega) m1 (by omega)
  have d := mul_abs_le (x := j + 1) (y := m) (A := 1048577) (B := 65536) (by omega) (by omega) (by omega) m1 (by omega)
  have e := mul_abs_le (x := j) (y := 2 * m) (A := 1048576) (B := 131072) j0 j1 (by omega) (by omega) (by omega)
  rw [Int.mul_comm j (2 * m)] at e
  have g := mul_abs_le (x := 2 * i + 1) (y := n) (A := 131072) (B := 65536) (by omega) (by omega) (by omega) n1 (by omega)
  have g0 : 0 ≤ (2 * i + 1) * n := Int.mul_nonneg (by omega) (by omega)
  omega
theorem fracQ_in {n m : Int} (n0 : 1 ≤ n) (n1 : n ≤ 65536) (m0 : 1 ≤ m) (m1 : m ≤ 65536) : 2 ≤ fracQ n m ∧ fracQ n m ≤ 131072 := by unfold fracQ; split <;> omega
theorem fracP_in {n m i j : Int} (n0 : 1 ≤ n) (n1 : n ≤ 65536) (m0 : 1 ≤ m) (m1 : m ≤ 65536) (i0 : 0 ≤ i) (i1 : i < m) (j0 : -1048576 ≤ j) (j1 : j ≤ 1048576) : -200000000000 ≤ fracP n m i j ∧ fracP n m i j ≤ 200000000000 := by
  obtain ⟨_, _, _, _, e, g⟩ := side_bounds n0 n1 m0 m1 i0 i1 j0 j1
  unfold fracP; omega
theorem reffrac_any (n m i j : Int) (n0 : 1 ≤ n) (n1 : n ≤ 65536) (m0 : 1 ≤ m) (m1 : m ≤ 65536) (i0 : 0 ≤ i) (i1 : i < m) (j0 : -1048576 ≤ j) (j1 : j ≤ 1048576) (w : World) :
    Calls Tryd.prog 35 #[.int .i64 n, .int .i64 m, .int .i64 i, .int .i64 j] w fun e w' => e = .returned (.tuple #[.int .i64 (fracP n m i j), .int .i64 (fracQ n m)]) ∧ Below w.heap.size w w' := by
  obtain ⟨_, _, _, _, ⟨e0, e1⟩, ⟨g0, g1⟩⟩ := side_bounds n0 n1 m0 m1 i0 i1 j0 j1
  unfold fracP fracQ
  by_cases g : n < m
  · rw [if_pos g]
    go_enter Tryd.func35, Tryd.ntmps35
    go_wp2
    exact bodyPost_ret (v := .tuple #[.int .i64 (2 * m * j - (2 * i + 1) * n + m), .int .i64 (2 * m)]) (by simp [results, Tryd.results35, go_sem]) rfl ⟨rfl, Below.refl _ _⟩
  · rw [if_neg g]
    go_enter Tryd.func35, Tryd.ntmps35
    go_wp2
    exact bodyPost_ret (v := .tuple #[.int .i64 (2 * m * j - (2 * i + 1) * n + m), .int .i64 (2 * n)]) (by simp [results, Tryd.results35, go_sem]) rfl ⟨rfl, Below.refl _ _⟩
theorem refin_box (n m i j : Int) (n0 : 1 ≤ n) (n1 : n ≤ 65536) (m0 : 1 ≤ m) (m1 : m ≤ 65536) (i0 : 0 ≤ i) (i1 : i < m) (j0 : -1048576 ≤ j) (j1 : j ≤ 1048576) (w : World) :
    Calls Tryd.prog 21 #[.int .i64 0, .int .i64 n, .int .i64 m, .int .i64 i, .int .i64 j] w fun e w' => e = .returned (.bool (inW 0 n m i j)) ∧ Below w.heap.size w w' := by
  obtain ⟨⟨a0, a1⟩, ⟨b0, b1⟩, ⟨c0, c1⟩, ⟨d0, d1⟩, _, _⟩ := side_bounds n0 n1 m0 m1 i0 i1 j0 j1
  rw [show inW 0 n m i j = (decide (i * n < (j + 1) * m) && decide (j * m < (i + 1) * n)) from if_pos rfl]
  by_cases g : i * n < (j + 1) * m
  · rw [decide_eq_true g, Bool.true_and]
    go_enter Tryd.func21, Tryd.ntmps21
    go_wp2
    go_ret
    exact ⟨rfl, Below.refl _ _⟩
  · rw [decide_eq_false g, Bool.false_and]
    go_enter Tryd.func21, Tryd.ntmps21
    go_wp2
    go_ret
    exact ⟨rfl, Below.refl _ _⟩
theorem refin_far (f n m i j : Int) (hf : f = 1 ∨ f = 2) (n0 : 1 ≤ n) (n1 : n ≤ 65536) (m0 : 1 ≤ m) (m1 : m ≤ 65536) (i0 : 0 ≤ i) (i1 : i < m) (j0 : -1048576 ≤ j) (j1 : j ≤ 1048576) (w : World) :
    Calls Tryd.prog 21 #[.int .i64 f, .int .i64 n, .int .i64 m, .int .i64 i, .int .i64 j] w fun e w' => e = .returned (.bool (inW f n m i j)) ∧ Below w.heap.size w w' := by
  have CF := reffrac_any n m i j n0 n1 m0 m1 i0 i1 j0 j1
  obtain ⟨p0, p1⟩ := fracP_in n0 n1 m0 m1 i0 i1 j0 j1
  obtain ⟨q0, q1⟩ := fracQ_in n0 n1 m0 m1
  have e : inW f n m i j = (decide (fracP n m i j < (if f = 2 then 3 * fracQ n m else 2 * fracQ n m)) && decide (-(if f = 2 then 3 * fracQ n m else 2 * fracQ n m) < fracP n m i j)) := if_neg (by omega)
  rw [e]
  clear e
  generalize fracP n m i j = p at *
  generalize fracQ n m = q at *
  rcases hf with rfl | rfl
  · rw [if_neg (by omega)]
    by_cases g : p < 2 * q
    · rw [decide_eq_true g, Bool.true_and]
      go_enter Tryd.func21, Tryd.ntmps21
      go_wp2_with (go_at_call 35; (with_reducible refine (CF _).mono ?_); rintro e w1 ⟨rfl, b1⟩)
      go_ret
      exact ⟨rfl, b1⟩
    · rw [decide_eq_false g, Bool.false_and]
      go_enter Tryd.func21, Tryd.ntmps21
      go_wp2_with (go_at_call 35; (with_reducible refine (CF _).mono ?_); rintro e w1 ⟨rfl, b1⟩)
      go_ret
      exact ⟨rfl, b1⟩
  · rw [if_pos rfl]
    by_cases g : p < 3 * q
    · rw [decide_eq_true g, Bool.true_and]
      go_enter Tryd.func21, Tryd.ntmps21
      go_wp2_with (go_at_call 35; (with_reducible refine (CF _).mono ?_); rintro e w1 ⟨rfl, b1⟩)
      go_ret
      exact ⟨rfl, b1⟩
    · rw [decide_eq_false g, Bool.false_and]
      go_enter Tryd.func21, Tryd.ntmps21
      go_wp2_with (go_at_call 35; (with_reducible refine (CF _).mono ?_); rintro e w1 ⟨rfl, b1⟩)
      go_ret
      exact ⟨rfl, b1⟩
theorem refin_any (f n m i j : Int) (f0 : 0 ≤ f) (f1 : f ≤ 2) (n0 : 1 ≤ n) (n1 : n ≤ 65536) (m0 : 1 ≤ m) (m1 : m ≤ 65536) (i0 : 0 ≤ i) (i1 : i < m) (j0 : -1048576 ≤ j) (j1 : j ≤ 1048576) (w : World) :
    Calls Tryd.prog 21 #[.int .i64 f, .int .i64 n, .int .i64 m, .int .i64 i, .int .i64 j] w fun e w' => e = .returned (.bool (inW f n m i j)) ∧ Below w.heap.size w w' := by
  by_cases h : f = 0
  · subst h; exact refin_box n m i j n0 n1 m0 m1 i0 i1 j0 j1 w
  · exact refin_far f n m i j (by omega) n0 n1 m0 m1 i0 i1 j0 j1 w
theorem refweight_any (f n m i j : Int) (f0 : 0 ≤ f) (f1 : f ≤ 2) (n0 : 1 ≤ n) (n1 : n ≤ 65536) (m0 : 1 ≤ m) (m1 : m ≤ 65536) (i0 : 0 ≤ i) (i1 : i < m) (j0 : -1048576 ≤ j) (j1 : j ≤ 1048576) (w : World) :
    Calls Tryd.prog 22 #[.int .i64 f, .int .i64 n, .int .i64 m, .int .i64 i, .int .i64 j] w fun e w' => e = .returned (.int .i64 (weightR f n m i j)) ∧ Below w.heap.size w w' := by
  obtain ⟨⟨a0, a1⟩, ⟨b0, b1⟩, ⟨c0, c1⟩, ⟨d0, d1⟩, _, _⟩ := side_bounds n0 n1 m0 m1 i0 i1 j0 j1
  by_cases h : f = 0
  · subst h
    obtain ⟨lo, hlo⟩ : ∃ lo, max (i * n) (j * m) = lo := ⟨_, rfl⟩
    obtain ⟨hi', hhi⟩ : ∃ hi', min ((i + 1) * n) ((j + 1) * m) = hi' := ⟨_, rfl⟩
    have CM := refmuldiv_to (hi' - lo) 1073741824 n _ rfl (by omega) (by omega) (by omega) (by omega) (by omega) (by omega)
    rw [show weightR 0 n m i j = divF ((hi' - lo) * 1073741824) n by rw [← hlo, ← hhi]; exact if_pos rfl]
    generalize divF ((hi' - lo) * 1073741824) n = z at *
    have l : (decide (i * n < j * m) = true ∧ lo = j * m) ∨ (decide (i * n < j * m) = false ∧ lo = i * n) := by
      by_cases g : i * n < j * m
      · exact Or.inl ⟨decide_eq_true g, by omega⟩
      · exact Or.inr ⟨decide_eq_false g, by omega⟩
    have r : (decide ((j + 1) * m < (i + 1) * n) = true ∧ hi' = (j + 1) * m) ∨ (decide ((j + 1) * m < (i + 1) * n) = false ∧ hi' = (i + 1) * n) := by
      by_cases g : (j + 1) * m < (i + 1) * n
      · exact Or.inl ⟨decide_eq_true g, by omega⟩
      · exact Or.inr ⟨decide_eq_false g, by omega⟩
    clear hlo hhi
    rcases l with ⟨l, rfl⟩ | ⟨l, rfl⟩ <;> rcases r with ⟨r, rfl⟩ | ⟨r, rfl⟩
    all_goals
      go_enter Tryd.func22, Tryd.ntmps22
      go_wp2_with (go_at_call 30; (with_reducible refine (CM _).mono ?_); rintro e w1 ⟨rfl, b1⟩)
      go_ret
      exact ⟨rfl, b1⟩
  · have CF := reffrac_any n m i j n0 n1 m0 m1 i0 i1 j0 j1
    obtain ⟨p0, p1⟩ := fracP_in n0 n1 m0 m1 i0 i1 j0 j1
    by_cases h1 : f = 1
    · subst h1
      rw [show weightR 1 n m i j = keysF (fracP n m i j) (fracQ n m) by unfold weightR; rw [if_neg (by omega), if_pos rfl]]
      have CK := refkeys_any (fracP n m i j) (fracQ n m) (by omega) (by omega)
      generalize keysF (fracP n m i j) (fracQ n m) = z at *
      generalize fracP n m i j = p at *
      generalize fracQ n m = q at *
      go_enter Tryd.func22, Tryd.ntmps22
      go_wp2_with (first
        | (go_at_call 35; (with_reducible refine (CF _).mono ?_); rintro e w1 ⟨rfl, b1⟩)
        | (go_at_call 17; (with_reducible refine (CK _).mono ?_); rintro e w2 ⟨rfl, b2⟩))
      go_ret
      exact ⟨rfl, bt b1 b2⟩
    · obtain rfl : f = 2 := by omega
      rw [show weightR 2 n m i j = lanczosF (fracP n m i j) (fracQ n m) by unfold weightR; rw [if_neg (by omega), if_neg (by omega)]]
      have CK := reflanczos_any (fracP n m i j) (fracQ n m) (by omega) (by omega)
      generalize lanczosF (fracP n m i j) (fracQ n m) = z at *
      generalize fracP n m i j = p at *
      generalize fracQ n m = q at *
      go_enter Tryd.func22, Tryd.ntmps22
      go_wp2_with (first
        | (go_at_call 35; (with_reducible refine (CF _).mono ?_); rintro e w1 ⟨rfl, b1⟩)
        | (go_at_call 36; (with_reducible refine (CK _).mono ?_); rintro e w2 ⟨rfl, b2⟩))
      go_ret
      exact ⟨rfl, bt b1 b2⟩
end Go.Proofs.YtjmdknbbgmajoaaDoor
