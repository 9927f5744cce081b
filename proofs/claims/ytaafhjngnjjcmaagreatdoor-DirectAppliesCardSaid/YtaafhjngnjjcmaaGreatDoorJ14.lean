/- Parts, joined. -/
import Derived.Test.YtaafhjngnjjcmaaGreatDoorJ13
import Derived.Test.YtaafhjngnjjcmaaGreatDoorJ08
import Derived.WalkKit
import Derived.OwnWalk
/- The program's raw weights: Keys' cubic. -/
namespace Go.Proofs.YtaafhjngnjjcmaaGreatDoor
open Go.RowKit


theorem up_mul {a b A B : Int} (a0 : 0 ≤ a) (a1 : a ≤ A) (b0 : 0 ≤ b) (b1 : b ≤ B) : 0 ≤ a * b ∧ a * b ≤ A * B := ⟨Int.mul_nonneg a0 b0, Int.mul_le_mul a1 b1 b0 (by omega)⟩
set_option maxRecDepth 100000 in
theorem doubled_low (p q v : Int) (hv : lowK p q = v) (q0 : 1 ≤ q) (q1 : q ≤ 262144) (p0 : 0 ≤ p) (g : p < q) (w : World) :
    Calls Tryz.prog 140 #[.int .i64 p, .int .i64 q] w fun e w' => e = .returned (.int .i64 v) ∧ w = w' := by
  obtain ⟨a0, a1⟩ := up_mul (a := 3 * p) (A := 786432) (b := p) (B := 262144) (by omega) (by omega) p0 (by omega)
  obtain ⟨b0, b1⟩ := up_mul a0 a1 p0 (show p ≤ 262144 by omega)
  obtain ⟨c0, c1⟩ := up_mul (a := 5 * p) (A := 1310720) (b := p) (B := 262144) (by omega) (by omega) p0 (by omega)
  obtain ⟨d0, d1⟩ := up_mul c0 c1 (show 0 ≤ q by omega) q1
  obtain ⟨e0, e1⟩ := up_mul (a := 2 * q) (A := 524288) (b := q) (B := 262144) (by omega) (by omega) (by omega) q1
  obtain ⟨f0, f1⟩ := up_mul e0 e1 (show 0 ≤ q by omega) q1
  have HV := hide hv
  clear hv
  go_enter Tryz.func140, Tryz.ntmps140
  go_wp2
  go_ret
  exact ⟨ret_i64 (by rw [← HV.out]; unfold lowK; simp only [Int.mul_assoc]), rfl⟩
set_option maxRecDepth 100000 in
theorem doubled_high (p q v : Int) (hv : highK p q = v) (q0 : 1 ≤ q) (q1 : q ≤ 262144) (g : q ≤ p) (p1 : p < 2 * q) (w : World) :
    Calls Tryz.prog 140 #[.int .i64 p, .int .i64 q] w fun e w' => e = .returned (.int .i64 v) ∧ w = w' := by
  have p0 : 0 ≤ p := by omega
  have p2 : p ≤ 524288 := by omega
  obtain ⟨a0, a1⟩ := up_mul (a := p) (A := 524288) (b := p) (B := 524288) p0 p2 p0 p2
  obtain ⟨b0, b1⟩ := up_mul a0 a1 p0 p2
  obtain ⟨c0, c1⟩ := up_mul (a := 5 * p) (A := 2621440) (b := p) (B := 524288) (by omega) (by omega) p0 p2
  obtain ⟨d0, d1⟩ := up_mul c0 c1 (show 0 ≤ q by omega) q1
  obtain ⟨e0, e1⟩ := up_mul (a := 4 * q) (A := 1048576) (b := q) (B := 262144) (by omega) (by omega) (by omega) q1
  obtain ⟨f0, f1⟩ := up_mul e0 e1 (show 0 ≤ q by omega) q1
  obtain ⟨g0, g1⟩ := up_mul (a := 8 * p) (A := 4194304) (b := q) (B := 262144) (by omega) (by omega) (by omega) q1
  obtain ⟨h0, h1⟩ := up_mul g0 g1 (show 0 ≤ q by omega) q1
  have HV := hide hv
  clear hv
  go_enter Tryz.func140, Tryz.ntmps140
  go_wp2
  go_ret
  exact ⟨ret_i64 (by rw [← HV.out]; unfold highK; simp only [Int.mul_assoc]), rfl⟩
set_option maxRecDepth 100000 in
set_option maxHeartbeats 1000000 in
theorem keys_at (p q P : Int) (hP : absI p = P) (h0 : -9223372036854775808 < p) (h1 : p ≤ 9223372036854775807) (q0 : 1 ≤ q) (q1 : q ≤ 262144) (g0 : p < 2 * q) (g1 : -2 * q < p) (w : World) :
    Calls Tryz.prog 121 #[.int .i64 p, .int .i64 q] w fun e w' => e = .returned (.int .i64 (if P < q then divF (lowK P q * 1073741824) (2 * (q * q * q)) else divF (highK P q * 1073741824) (2 * (q * q * q)))) ∧ Below w.heap.size w w' := by
  have P0 : 0 ≤ P := by rw [← hP]; exact absI0 p
  have P1 : P < 2 * q := by rw [← hP]; unfold absI; split <;> omega
  obtain ⟨a0, a1, b0, b1, d0, d1, e0, e1⟩ := keys_bounds q0 q1 P0 (by omega)
  obtain ⟨s0, s1, c0, c1⟩ := cubes q0 q1
  obtain ⟨v, hv, v0, v1⟩ : ∃ v, (if P < q then lowK P q else highK P q) = v ∧ -9223372036854775808 ≤ v ∧ v ≤ 9223372036854775807 := by
    refine ⟨_, rfl, ?_⟩
    unfold lowK highK
    split <;> omega
  have hp : (decide (p < 0) = true ∧ -p = P) ∨ (decide (p < 0) = false ∧ p = P) := by
    unfold absI at hP
    by_cases h : p < 0
    · rw [if_pos h] at hP; exact Or.inl ⟨decide_eq_true h, hP⟩
    · rw [if_neg h] at hP; exact Or.inr ⟨decide_eq_false h, hP⟩
  clear hP
  have CD : ∀ w : World, Calls Tryz.prog 140 #[.int .i64 P, .int .i64 q] w fun e w' => e = .returned (.int .i64 v) ∧ w = w' := by
    intro w
    by_cases g : P < q
    · rw [if_pos g] at hv; exact doubled_low P q v hv q0 q1 P0 g w
    · rw [if_neg g] at hv; exact doubled_high P q v hv q0 q1 (by omega) P1 w
  have ez : (if P < q then divF (lowK P q * 1073741824) (2 * (q * q * q)) else divF (highK P q * 1073741824) (2 * (q * q * q))) = divF (v * 1073741824) (2 * q * q * q) := by
    rw [← hv, show 2 * q * q * q = 2 * (q * q * q) by simp only [Int.mul_assoc]]
    split <;> rfl
  rw [ez]
  have eq3 : 2 * q * q * q = 2 * (q * q * q) := by simp only [Int.mul_assoc]
  obtain ⟨f0, f1⟩ := up_mul (a := 2 * q) (A := 524288) (b := q) (B := 262144) (by omega) (by omega) (by omega) q1
  have CM := muldiv_to v 1073741824 (2 * q * q * q) _ rfl (by omega) (by omega) (by omega) (by omega) (by omega) (by omega)
  obtain ⟨t0, t1⟩ : 1 ≤ 2 * q * q * q ∧ 2 * q * q * q ≤ 36028797018963968 := by omega
  generalize divF (v * 1073741824) (2 * q * q * q) = z at *
  clear ez eq3 hv a0 a1 b0 b1 d0 d1 e0 e1 s0 s1 c0 c1 v0 v1
  rcases hp with ⟨hp, hP⟩ | ⟨hp, hP⟩
  · go_enter Tryz.func121, Tryz.ntmps121
    go_wp2_with (first
      | (go_at_call 140; (with_reducible refine (CD _).mono ?_); rintro e w1 ⟨rfl, rfl⟩)
      | (go_at_call 139; (with_reducible refine (CM _).mono ?_); rintro e w1 ⟨rfl, b1⟩))
    go_ret
    exact ⟨rfl, b1⟩
  · subst hP
    go_enter Tryz.func121, Tryz.ntmps121
    go_wp2_with (first
      | (go_at_call 140; (with_reducible refine (CD _).mono ?_); rintro e w1 ⟨rfl, rfl⟩)
      | (go_at_call 139; (with_reducible refine (CM _).mono ?_); rintro e w1 ⟨rfl, b1⟩))
    go_ret
    exact ⟨rfl, b1⟩
theorem keys_any (p q : Int) (h0 : -9223372036854775808 ≤ p) (h1 : p ≤ 9223372036854775807) (w : World) :
    Calls Tryz.prog 121 #[.int .i64 p, .int .i64 q] w fun e w' => e = .returned (.int .i64 (keysF p q)) ∧ Below w.heap.size w w' := by
  by_cases g : 1 ≤ q ∧ q ≤ 262144 ∧ p < 2 * q ∧ -2 * q < p
  · rw [show keysF p q = if absI p < q then divF (lowK (absI p) q * 1073741824) (2 * (q * q * q)) else divF (highK (absI p) q * 1073741824) (2 * (q * q * q)) from if_pos g]
    obtain ⟨q0, q1, g0, g1⟩ := g
    exact keys_at p q _ rfl (by omega) h1 q0 q1 g0 g1 w
  · rw [show keysF p q = 0 from if_neg g]
    by_cases g1 : q < 1
    · clear g
      go_enter Tryz.func121, Tryz.ntmps121
      go_wp2
      go_ret
      exact ⟨rfl, Below.refl _ _⟩
    by_cases g2 : 262144 < q
    · clear g
      go_enter Tryz.func121, Tryz.ntmps121
      go_wp2
      go_ret
      exact ⟨rfl, Below.refl _ _⟩
    by_cases g3 : p ≤ -2 * q
    · clear g
      go_enter Tryz.func121, Tryz.ntmps121
      go_wp2
      go_ret
      exact ⟨rfl, Below.refl _ _⟩
    have g4 : 2 * q ≤ p := by omega
    clear g
    go_enter Tryz.func121, Tryz.ntmps121
    go_wp2
    go_ret
    exact ⟨rfl, Below.refl _ _⟩
end Go.Proofs.YtaafhjngnjjcmaaGreatDoor

/- What each source sample weighs: the document's calls for one sample. -/
namespace Go.Proofs.YtaafhjngnjjcmaaGreatDoor
open Go.RowKit

def fracP (n m i j : Int) : Int := 2 * m * j - (2 * i + 1) * n + m
def fracQ (n m : Int) : Int := if n < m then 2 * m else 2 * n
/-- Is a source sample in the window? -/
def inW (f n m i j : Int) : Bool := if f = 0 then decide (i * n < (j + 1) * m) && decide (j * m < (i + 1) * n) else decide (fracP n m i j < (if f = 2 then 3 * fracQ n m else 2 * fracQ n m)) && decide (-(if f = 2 then 3 * fracQ n m else 2 * fracQ n m) < fracP n m i j)
def weightR (f n m i j : Int) : Int := if f = 0 then divF ((min ((i + 1) * n) ((j + 1) * m) - max (i * n) (j * m)) * 1073741824) n else if f = 1 then keysF (fracP n m i j) (fracQ n m) else lanczosF (fracP n m i j) (fracQ n m)
theorem mul_abs_le {x y A B : Int} (h0 : -A ≤ x) (h1 : x ≤ A) (k0 : 0 ≤ y) (k1 : y ≤ B) (hA : 0 ≤ A) : -(A * B) ≤ x * y ∧ x * y ≤ A * B := by
  have a : x * y ≤ A * y := Int.mul_le_mul_of_nonneg_right h1 k0
  have b : (-A) * y ≤ x * y := Int.mul_le_mul_of_nonneg_right h0 k0
  have c : A * y ≤ A * B := Int.mul_le_mul_of_nonneg_left k1 hA
  rw [Int.neg_mul] at b
  omega
theorem side_bounds {n m i j : Int} (n0 : 1 ≤ n) (n1 : n ≤ 65536) (m0 : 1 ≤ m) (m1 : m ≤ 65536) (i0 : 0 ≤ i) (i1 : i < m) (j0 : -1048576 ≤ j) (j1 : j ≤ 1048576) :
    (0 ≤ i * n ∧ i * n ≤ 4294967296) ∧ (0 ≤ (i + 1) * n ∧ (i + 1) * n ≤ 4294967296) ∧ (-68719476736 ≤ j * m ∧ j * m ≤ 68719476736) ∧ (-68719542272 ≤ (j + 1) * m ∧ (j + 1) * m ≤ 68719542272) ∧ (-137438953472 ≤ 2 * m * j ∧ 2 * m * j ≤ 137438953472) ∧ (0 ≤ (2 * i + 1) * n ∧ (2 * i + 1) * n ≤ 8589934592) := by
  have a := mul_abs_le (x := i) (y := n) (A := 65536) (B := 65536) (by omega) (by omega) (by omega) n1 (by omega)
  have a0 : 0 ≤ i * n := Int.mul_nonneg i0 (by omega)
  have b := mul_abs_le (x := i + 1) (y := n) (A := 65536) (B := 65536) (by omega) (by omega) (by omega) n1 (by omega)
  have b0 : 0 ≤ (i + 1) * n := Int.mul_nonneg (by omega) (by omega)
  have c := mul_abs_le (x := j) (y := m) (A := 1048576) (B := 65536) j0 j1 (by omega) m1 (by omega)
  have d := mul_abs_le (x := j + 1) (y := m) (A := 1048577) (B := 65536) (by omega) (by omega) (by omega) m1 (by omega)
  have e := mul_abs_le (x := j) (y := 2 * m) (A := 1048576) (B := 131072) j0 j1 (by omega) (by omega) (by omega)
  rw [Int.mul_comm j (2 * m)] at e
  have g := mul_abs_le (x := 2 * i + 1) (y := n) (A := 131072) (B := 65536) (by omega) (by omega) (by omega) n1 (by omega)
  have g0 : 0 ≤ (2 * i + 1) * n := Int.mul_nonneg (by omega) (by omega)
  omega
theorem fracQ_in {n m : Int} (n0 : 1 ≤ n) (n1 : n ≤ 65536) (m0 : 1 ≤ m) (m1 : m ≤ 65536) : 2 ≤ fracQ n m ∧ fracQ n m ≤ 131072 := by unfold fracQ; split <;> omega
theorem fracP_in {n m i j : Int} (n0 : 1 ≤ n) (n1 : n ≤ 65536) (m0 : 1 ≤ m) (m1 : m ≤ 65536) (i0 : 0 ≤ i) (i1 : i < m) (j0 : -1048576 ≤ j) (j1 : j ≤ 1048576) : -200000000000 ≤ fracP n m i j ∧ fracP n m i j ≤ 200000000000 := by
  obtain ⟨_, _, _, _, e, g⟩ := side_bounds n0 n1 m0 m1 i0 i1 j0 j1
  unfold fracP; omega
theorem reffrac_any (n m i j : Int) (n0 : 1 ≤ n) (n1 : n ≤ 65536) (m0 : 1 ≤ m) (m1 : m ≤ 65536) (i0 : 0 ≤ i) (i1 : i < m) (j0 : -1048576 ≤ j) (j1 : j ≤ 1048576) (w : World) :
    Calls Tryz.prog 173 #[.int .i64 n, .int .i64 m, .int .i64 i, .int .i64 j] w fun e w' => e = .returned (.tuple #[.int .i64 (fracP n m i j), .int .i64 (fracQ n m)]) ∧ Below w.heap.size w w' := by
  obtain ⟨_, _, _, _, ⟨e0, e1⟩, ⟨g0, g1⟩⟩ := side_bounds n0 n1 m0 m1 i0 i1 j0 j1
  unfold fracP fracQ
  by_cases g : n < m
  · rw [if_pos g]
    go_enter Tryz.func173, Tryz.ntmps173
    go_wp2
    exact bodyPost_ret (v := .tuple #[.int .i64 (2 * m * j - (2 * i + 1) * n + m), .int .i64 (2 * m)]) (by simp [results, Tryz.results173, go_sem]) rfl ⟨rfl, Below.refl _ _⟩
  · rw [if_neg g]
    go_enter Tryz.func173, Tryz.ntmps173
    go_wp2
    exact bodyPost_ret (v := .tuple #[.int .i64 (2 * m * j - (2 * i + 1) * n + m), .int .i64 (2 * n)]) (by simp [results, Tryz.results173, go_sem]) rfl ⟨rfl, Below.refl _ _⟩
theorem refin_box (n m i j : Int) (n0 : 1 ≤ n) (n1 : n ≤ 65536) (m0 : 1 ≤ m) (m1 : m ≤ 65536) (i0 : 0 ≤ i) (i1 : i < m) (j0 : -1048576 ≤ j) (j1 : j ≤ 1048576) (w : World) :
    Calls Tryz.prog 142 #[.int .i64 0, .int .i64 n, .int .i64 m, .int .i64 i, .int .i64 j] w fun e w' => e = .returned (.bool (inW 0 n m i j)) ∧ Below w.heap.size w w' := by
  obtain ⟨⟨a0, a1⟩, ⟨b0, b1⟩, ⟨c0, c1⟩, ⟨d0, d1⟩, _, _⟩ := side_bounds n0 n1 m0 m1 i0 i1 j0 j1
  rw [show inW 0 n m i j = (decide (i * n < (j + 1) * m) && decide (j * m < (i + 1) * n)) from if_pos rfl]
  by_cases g : i * n < (j + 1) * m
  · rw [decide_eq_true g, Bool.true_and]
    go_enter Tryz.func142, Tryz.ntmps142
    go_wp2
    go_ret
    exact ⟨rfl, Below.refl _ _⟩
  · rw [decide_eq_false g, Bool.false_and]
    go_enter Tryz.func142, Tryz.ntmps142
    go_wp2
    go_ret
    exact ⟨rfl, Below.refl _ _⟩
theorem refin_far (f n m i j : Int) (hf : f = 1 ∨ f = 2) (n0 : 1 ≤ n) (n1 : n ≤ 65536) (m0 : 1 ≤ m) (m1 : m ≤ 65536) (i0 : 0 ≤ i) (i1 : i < m) (j0 : -1048576 ≤ j) (j1 : j ≤ 1048576) (w : World) :
    Calls Tryz.prog 142 #[.int .i64 f, .int .i64 n, .int .i64 m, .int .i64 i, .int .i64 j] w fun e w' => e = .returned (.bool (inW f n m i j)) ∧ Below w.heap.size w w' := by
  have CF := reffrac_any n m i j n0 n1 m0 m1 i0 i1 j0 j1
  obtain ⟨p0, p1⟩ := fracP_in n0 n1 m0 m1 i0 i1 j0 j1
  obtain ⟨q0, q1⟩ := fracQ_in n0 n1 m0 m1
  have e : inW f n m i j = (decide (fracP n m i j < (if f = 2 then 3 * fracQ n m else 2 * fracQ n m)) && decide (-(if f = 2 then 3 * fracQ n m else 2 * fracQ n m) < fracP n m i j)) := if_neg (by omega)
  rw [e]
  clear e
  generalize fracP n m i j = p at *
  generalize fracQ n m = q at *
  rcases hf with rfl | rfl
  · rw [if_neg (by omega)]
    by_cases g : p < 2 * q
    · rw [decide_eq_true g, Bool.true_and]
      go_enter Tryz.func142, Tryz.ntmps142
      go_wp2_with (go_at_call 173; (with_reducible refine (CF _).mono ?_); rintro e w1 ⟨rfl, b1⟩)
      go_ret
      exact ⟨rfl, b1⟩
    · rw [decide_eq_false g, Bool.false_and]
      go_enter Tryz.func142, Tryz.ntmps142
      go_wp2_with (go_at_call 173; (with_reducible refine (CF _).mono ?_); rintro e w1 ⟨rfl, b1⟩)
      go_ret
      exact ⟨rfl, b1⟩
  · rw [if_pos rfl]
    by_cases g : p < 3 * q
    · rw [decide_eq_true g, Bool.true_and]
      go_enter Tryz.func142, Tryz.ntmps142
      go_wp2_with (go_at_call 173; (with_reducible refine (CF _).mono ?_); rintro e w1 ⟨rfl, b1⟩)
      go_ret
      exact ⟨rfl, b1⟩
    · rw [decide_eq_false g, Bool.false_and]
      go_enter Tryz.func142, Tryz.ntmps142
      go_wp2_with (go_at_call 173; (with_reducible refine (CF _).mono ?_); rintro e w1 ⟨rfl, b1⟩)
      go_ret
      exact ⟨rfl, b1⟩
theorem refin_any (f n m i j : Int) (f0 : 0 ≤ f) (f1 : f ≤ 2) (n0 : 1 ≤ n) (n1 : n ≤ 65536) (m0 : 1 ≤ m) (m1 : m ≤ 65536) (i0 : 0 ≤ i) (i1 : i < m) (j0 : -1048576 ≤ j) (j1 : j ≤ 1048576) (w : World) :
    Calls Tryz.prog 142 #[.int .i64 f, .int .i64 n, .int .i64 m, .int .i64 i, .int .i64 j] w fun e w' => e = .returned (.bool (inW f n m i j)) ∧ Below w.heap.size w w' := by
  by_cases h : f = 0
  · subst h; exact refin_box n m i j n0 n1 m0 m1 i0 i1 j0 j1 w
  · exact refin_far f n m i j (by omega) n0 n1 m0 m1 i0 i1 j0 j1 w
theorem refweight_any (f n m i j : Int) (f0 : 0 ≤ f) (f1 : f ≤ 2) (n0 : 1 ≤ n) (n1 : n ≤ 65536) (m0 : 1 ≤ m) (m1 : m ≤ 65536) (i0 : 0 ≤ i) (i1 : i < m) (j0 : -1048576 ≤ j) (j1 : j ≤ 1048576) (w : World) :
    Calls Tryz.prog 143 #[.int .i64 f, .int .i64 n, .int .i64 m, .int .i64 i, .int .i64 j] w fun e w' => e = .returned (.int .i64 (weightR f n m i j)) ∧ Below w.heap.size w w' := by
  obtain ⟨⟨a0, a1⟩, ⟨b0, b1⟩, ⟨c0, c1⟩, ⟨d0, d1⟩, _, _⟩ := side_bounds n0 n1 m0 m1 i0 i1 j0 j1
  by_cases h : f = 0
  · subst h
    obtain ⟨lo, hlo⟩ : ∃ lo, max (i * n) (j * m) = lo := ⟨_, rfl⟩
    obtain ⟨hi', hhi⟩ : ∃ hi', min ((i + 1) * n) ((j + 1) * m) = hi' := ⟨_, rfl⟩
    have CM := refmuldiv_to (hi' - lo) 1073741824 n _ rfl (by omega) (by omega) (by omega) (by omega) (by omega) (by omega)
    rw [show weightR 0 n m i j = divF ((hi' - lo) * 1073741824) n by rw [← hlo, ← hhi]; exact if_pos rfl]
    generalize divF ((hi' - lo) * 1073741824) n = z at *
    have l : (decide (i * n < j * m) = true ∧ lo = j * m) ∨ (decide (i * n < j * m) = false ∧ lo = i * n) := by
      by_cases g : i * n < j * m
      · exact Or.inl ⟨decide_eq_true g, by omega⟩
      · exact Or.inr ⟨decide_eq_false g, by omega⟩
    have r : (decide ((j + 1) * m < (i + 1) * n) = true ∧ hi' = (j + 1) * m) ∨ (decide ((j + 1) * m < (i + 1) * n) = false ∧ hi' = (i + 1) * n) := by
      by_cases g : (j + 1) * m < (i + 1) * n
      · exact Or.inl ⟨decide_eq_true g, by omega⟩
      · exact Or.inr ⟨decide_eq_false g, by omega⟩
    clear hlo hhi
    rcases l with ⟨l, rfl⟩ | ⟨l, rfl⟩ <;> rcases r with ⟨r, rfl⟩ | ⟨r, rfl⟩
    all_goals
      go_enter Tryz.func143, Tryz.ntmps143
      go_wp2_with (go_at_call 127; (with_reducible refine (CM _).mono ?_); rintro e w1 ⟨rfl, b1⟩)
      go_ret
      exact ⟨rfl, b1⟩
  · have CF := reffrac_any n m i j n0 n1 m0 m1 i0 i1 j0 j1
    obtain ⟨p0, p1⟩ := fracP_in n0 n1 m0 m1 i0 i1 j0 j1
    by_cases h1 : f = 1
    · subst h1
      rw [show weightR 1 n m i j = keysF (fracP n m i j) (fracQ n m) by unfold weightR; rw [if_neg (by omega), if_pos rfl]]
      have CK := refkeys_any (fracP n m i j) (fracQ n m) (by omega) (by omega)
      generalize keysF (fracP n m i j) (fracQ n m) = z at *
      generalize fracP n m i j = p at *
      generalize fracQ n m = q at *
      go_enter Tryz.func143, Tryz.ntmps143
      go_wp2_with (first
        | (go_at_call 173; (with_reducible refine (CF _).mono ?_); rintro e w1 ⟨rfl, b1⟩)
        | (go_at_call 174; (with_reducible refine (CK _).mono ?_); rintro e w2 ⟨rfl, b2⟩))
      go_ret
      exact ⟨rfl, bt b1 b2⟩
    · obtain rfl : f = 2 := by omega
      rw [show weightR 2 n m i j = lanczosF (fracP n m i j) (fracQ n m) by unfold weightR; rw [if_neg (by omega), if_neg (by omega)]]
      have CK := reflanczos_any (fracP n m i j) (fracQ n m) (by omega) (by omega)
      generalize lanczosF (fracP n m i j) (fracQ n m) = z at *
      generalize fracP n m i j = p at *
      generalize fracQ n m = q at *
      go_enter Tryz.func143, Tryz.ntmps143
      go_wp2_with (first
        | (go_at_call 173; (with_reducible refine (CF _).mono ?_); rintro e w1 ⟨rfl, b1⟩)
        | (go_at_call 175; (with_reducible refine (CK _).mono ?_); rintro e w2 ⟨rfl, b2⟩))
      go_ret
      exact ⟨rfl, bt b1 b2⟩
end Go.Proofs.YtaafhjngnjjcmaaGreatDoor

/- What each source sample weighs: windows, and the document's rows. -/
namespace Go.Proofs.YtaafhjngnjjcmaaGreatDoor
open Go.RowKit


theorem inW_box {n m i j : Int} : inW 0 n m i j = true ↔ i * n < (j + 1) * m ∧ j * m < (i + 1) * n := by
  rw [show inW 0 n m i j = (decide (i * n < (j + 1) * m) && decide (j * m < (i + 1) * n)) from if_pos rfl]
  simp
theorem inW_far {f n m i j : Int} (hf : f ≠ 0) : inW f n m i j = true ↔ fracP n m i j < (if f = 2 then 3 * fracQ n m else 2 * fracQ n m) ∧ -(if f = 2 then 3 * fracQ n m else 2 * fracQ n m) < fracP n m i j := by
  rw [show inW f n m i j = (decide (fracP n m i j < (if f = 2 then 3 * fracQ n m else 2 * fracQ n m)) && decide (-(if f = 2 then 3 * fracQ n m else 2 * fracQ n m) < fracP n m i j)) from if_neg hf]
  simp
theorem reach_in {f n m : Int} (n0 : 1 ≤ n) (n1 : n ≤ 65536) (m0 : 1 ≤ m) (m1 : m ≤ 65536) : 2 * n + 2 * m ≤ (if f = 2 then 3 * fracQ n m else 2 * fracQ n m) ∧ (if f = 2 then 3 * fracQ n m else 2 * fracQ n m) ≤ 393216 := by
  unfold fracQ; split <;> split <;> omega
theorem frac_at (n m i j : Int) : fracP n m i j = 2 * (j * m) - 2 * (i * n) - n + m := by
  unfold fracP
  have e1 : 2 * m * j = 2 * (j * m) := by rw [Int.mul_assoc, Int.mul_comm m j]
  have e2 : (2 * i + 1) * n = 2 * (i * n) + n := by rw [Int.add_mul, Int.mul_assoc, Int.one_mul]
  rw [e1, e2]; omega
/-- The middle is in the window. -/
theorem inW_start {f n m i : Int} (n0 : 1 ≤ n) (n1 : n ≤ 65536) (m0 : 1 ≤ m) (m1 : m ≤ 65536) : inW f n m i (i * n / m) = true := by
  have e := Int.mul_ediv_add_emod (i * n) m
  have r0 := Int.emod_nonneg (i * n) (show m ≠ 0 by omega)
  have r1 := Int.emod_lt_of_pos (i * n) (show 0 < m by omega)
  rw [Int.mul_comm] at e
  have a1 : (i * n / m + 1) * m = i * n / m * m + m := by rw [Int.add_mul, Int.one_mul]
  have a2 : (i + 1) * n = i * n + n := by rw [Int.add_mul, Int.one_mul]
  by_cases hf : f = 0
  · subst hf
    rw [inW_box, a1, a2]
    omega
  · rw [inW_far hf, frac_at]
    have := reach_in (f := f) n0 n1 m0 m1
    omega
theorem inW_bound {f n m i j : Int} (n0 : 1 ≤ n) (n1 : n ≤ 65536) (m0 : 1 ≤ m) (m1 : m ≤ 65536) (i0 : 0 ≤ i) (i1 : i < m) (h : inW f n m i j = true) : -262144 < j ∧ j < 262144 := by
  have a0 : 0 ≤ i * n := Int.mul_nonneg i0 (by omega)
  have a1 : i * n ≤ i * 65536 := Int.mul_le_mul_of_nonneg_left n1 i0
  have up : 262144 ≤ j → 262144 * m ≤ j * m := fun g => Int.mul_le_mul_of_nonneg_right g (by omega)
  have dn : j ≤ -262144 → j * m ≤ -262144 * m := fun g => Int.mul_le_mul_of_nonneg_right g (by omega)
  by_cases hf : f = 0
  · subst hf
    rw [inW_box, Int.add_mul, Int.add_mul, Int.one_mul, Int.one_mul] at h
    constructor
    · by_cases g : -262144 < j
      · exact g
      · have := dn (by omega); omega
    · by_cases g : j < 262144
      · exact g
      · have := up (by omega); omega
  · rw [inW_far hf, frac_at] at h
    have := reach_in (f := f) n0 n1 m0 m1
    constructor
    · by_cases g : -262144 < j
      · exact g
      · have := dn (by omega); omega
    · by_cases g : j < 262144
      · exact g
      · have := up (by omega); omega
theorem inW_mid {f n m i a b c : Int} (m0 : 1 ≤ m) (h1 : a ≤ b) (h2 : b ≤ c) (ha : inW f n m i a = true) (hc : inW f n m i c = true) : inW f n m i b = true := by
  have l : a * m ≤ b * m := Int.mul_le_mul_of_nonneg_right h1 (by omega)
  have r : b * m ≤ c * m := Int.mul_le_mul_of_nonneg_right h2 (by omega)
  by_cases hf : f = 0
  · subst hf
    rw [inW_box, Int.add_mul, Int.add_mul, Int.one_mul, Int.one_mul] at *
    omega
  · rw [inW_far hf, frac_at] at *
    omega
/-- A window: the least sample, and how many there are. -/
def IsWin (f n m i j0 : Int) (c : Nat) : Prop := 0 < c ∧ inW f n m i (j0 - 1) = false ∧ (∀ k : Nat, k < c → inW f n m i (j0 + k) = true) ∧ inW f n m i (j0 + c) = false
/-- There is one alone. -/
theorem win_one {f n m i a b : Int} {c d : Nat} (m0 : 1 ≤ m) (h : IsWin f n m i a c) (g : IsWin f n m i b d) : a = b ∧ c = d := by
  obtain ⟨h0, h1, h2, h3⟩ := h
  obtain ⟨g0, g1, g2, g3⟩ := g
  have ha : inW f n m i a = true := by have := h2 0 h0; simpa using this
  have hb : inW f n m i b = true := by have := g2 0 g0; simpa using this
  have hal : inW f n m i (a + (c - 1 : Nat)) = true := h2 (c - 1) (by omega)
  have hbl : inW f n m i (b + (d - 1 : Nat)) = true := g2 (d - 1) (by omega)
  have no : ∀ {x y : Int}, inW f n m i x = false → inW f n m i y = true → x ≠ y := by
    rintro x y hx hy rfl; rw [hx] at hy; cases hy
  have ab : a = b := by
    by_cases q : a < b
    · exact absurd (inW_mid m0 (show a ≤ b - 1 by omega) (show b - 1 ≤ b by omega) ha hb) (by rw [g1]; decide)
    · by_cases q2 : b < a
      · exact absurd (inW_mid m0 (show b ≤ a - 1 by omega) (show a - 1 ≤ a by omega) hb ha) (by rw [h1]; decide)
      · omega
  subst ab
  refine ⟨rfl, ?_⟩
  by_cases q : c < d
  · have := g2 c q; rw [h3] at this; cases this
  · by_cases q2 : d < c
    · have := h2 d q2; rw [g3] at this; cases this
    · omega
/-- The weights of so many samples. -/
def rowR (f n m i j0 : Int) (c : Nat) : List Value := (List.range c).map fun k => Value.int .i64 (weightR f n m i (j0 + (k : Nat)))
theorem rowR_succ (f n m i j0 : Int) (c : Nat) : rowR f n m i j0 (c + 1) = rowR f n m i j0 c ++ [Value.int .i64 (weightR f n m i (j0 + (c : Nat)))] := by
  unfold rowR; rw [List.range_succ, List.map_append]; rfl
theorem rowR_len (f n m i j0 : Int) (c : Nat) : (rowR f n m i j0 c).length = c := by unfold rowR; rw [List.length_map, List.length_range]
theorem refmay_walk (f n m i : Int) (h : 0 ≤ f ∧ f ≤ 2 ∧ 1 ≤ n ∧ n ≤ 65536 ∧ 1 ≤ m ∧ m ≤ 65536 ∧ 0 ≤ i ∧ i < m) (w : World) :
    Calls Tryz.prog 141 #[.int .i64 f, .int .i64 n, .int .i64 m, .int .i64 i] w fun e w' => e = .returned (.bool true) ∧ Below w.heap.size w w' := by
  obtain ⟨h1, h2, h3, h4, h5, h6, h7, h8⟩ := h
  go_enter Tryz.func141, Tryz.ntmps141
  go_wp2
  go_ret
  exact ⟨rfl, Below.refl _ _⟩
theorem infoI64 : (Tryz.prog.info? 2).map (fun i => (i.zero, i.size, i.bytes)) = some (some (.int .i64 0), 1, 8) := by kernel_rfl
theorem owns_below {B : Nat} {e : TypeId} {k : Nat} {v : Value} {n : Nat} {xs : List Value} {w w' : World} (h : w.ownsRow B e k v n xs) (hb : Below w.heap.size w w') : w'.ownsRow B e k v n xs := by
  refine ⟨h.1, ?_⟩
  rcases h.2 with h2 | ⟨g, cap, cur, hv, hB, hg, r⟩
  · exact .inl h2
  · refine .inr ⟨g, cap, cur, hv, hB, ?_, r⟩
    have hlt : g < w.heap.size := by
      rcases Nat.lt_or_ge g w.heap.size with hlt | hge
      · exact hlt
      · rw [Array.getElem?_eq_none hge] at hg; cases hg
    rw [hb.block g hlt]; exact hg
theorem row_more {w0 wc w2 : World} {f n m i j0 : Int} {c : Nat} {v v' : Value} {o : Obj} (hb : Below w0.heap.size w0 wc) (hown : wc.ownsRow w0.heap.size 2 1 v c (rowR f n m i j0 c))
    (hown' : w2.ownsRow w0.heap.size 2 1 v' (c + 1) (rowR f n m i j0 c ++ [Value.int .i64 (weightR f n m i (j0 + (c : Nat)))]))
    (hgrow : (wc.alloc o).grownBy w2 v.ownBlock) :
    w2.ownsRow w0.heap.size 2 1 v' (c + 1) (rowR f n m i j0 (c + 1)) ∧ Below w0.heap.size w0 w2 := by
  have hs := hb.size
  exact ⟨by rw [rowR_succ]; exact hown', (hb.alloc (by omega) o).grown hgrow (by simp; omega) (fun j hj => (hown.lt j hj).1)⟩
set_option maxHeartbeats 4000000 in
set_option maxRecDepth 1000000 in
theorem refrow_walk (f n m i : Int) (h : 0 ≤ f ∧ f ≤ 2 ∧ 1 ≤ n ∧ n ≤ 65536 ∧ 1 ≤ m ∧ m ≤ 65536 ∧ 0 ≤ i ∧ i < m) (w : World) :
    Calls Tryz.prog 123 #[.int .i64 f, .int .i64 n, .int .i64 m, .int .i64 i] w fun e w' => ∃ (j0 : Int) (c : Nat) (v : Value), IsWin f n m i j0 c ∧ -262144 < j0 ∧ j0 < 262144 ∧ c ≤ 524288 ∧ e = .returned (.tuple #[.int .i64 j0, v]) ∧ w'.ownsRow w.heap.size 2 1 v c (rowR f n m i j0 c) ∧ Below w.heap.size w w' := by
  have CM := refmay_walk f n m i h
  obtain ⟨h1, h2, h3, h4, h5, h6, h7, h8⟩ := h
  have ST := inW_start (f := f) (i := i) h3 h4 h5 h6
  have CI := fun j (g0 : -1048576 ≤ j) (g1 : j ≤ 1048576) => refin_any f n m i j h1 h2 h3 h4 h5 h6 h7 h8 g0 g1
  have CW := fun j (g0 : -1048576 ≤ j) (g1 : j ≤ 1048576) => refweight_any f n m i j h1 h2 h3 h4 h5 h6 h7 h8 g0 g1
  have BD := fun j (g : inW f n m i j = true) => inW_bound (f := f) (j := j) h3 h4 h5 h6 h7 h8 g
  obtain ⟨a0, a1⟩ : 0 ≤ i * n ∧ i * n ≤ 4294967296 := by
    have a := mul_abs_le (x := i) (y := n) (A := 65536) (B := 65536) (by omega) (by omega) (by omega) h4 (by omega)
    have a0 : 0 ≤ i * n := Int.mul_nonneg h7 (by omega)
    omega
  have hm0 : (m == 0) = false := beq_eq_false_iff_ne.2 (by omega)
  obtain ⟨i0, hi, hz0, hz1, hz2⟩ := info_parts infoI64
  have BDH := hide BD
  have CIH := hide CI
  have CWH := hide CW
  have STH := hide ST
  clear BD CI CW ST
  go_enter Tryz.func123, Tryz.ntmps123
  go_wp2_with (go_at_call 141; (with_reducible refine (CM _).mono ?_); rintro e w1 ⟨rfl, b1⟩)
  go_loopw [10] (fun u wr => ∃ j : Int, u = .int .i64 j ∧ inW f n m i j = true ∧ Below w.heap.size w wr) (fun u _ => (intOf u + 262144).toNat)
  case atStart => exact ⟨_, rfl, STH.out, b1⟩
  case round =>
    obtain ⟨j, rfl, hin, hb⟩ := hrel
    obtain ⟨j0, j1⟩ := BDH.out _ hin
    have HB := hide hb
    have HI := hide hin
    clear hb hin b1
    have C1 := CIH.out (j - 1) (by omega) (by omega)
    by_cases hp : inW f n m i (j - 1) = true
    · rw [hp] at C1
      have HP := hide hp
      clear hp
      go_wp2_with (go_at_call 142; (with_reducible refine (C1 _).mono ?_); rintro e w2 ⟨rfl, b2⟩)
      go_roundw
      case rel => exact ⟨j - 1, by go_num, HP.out, bt HB.out b2⟩
      case measure => simp [intOf]; omega
    · have hp' : inW f n m i (j - 1) = false := by simpa using hp
      rw [hp'] at C1
      have hp1 := hide hp'
      clear hp hp'
      go_wp2_with (go_at_call 142; (with_reducible refine (C1 _).mono ?_); rintro e w2 ⟨rfl, b2⟩)
      go_loopw [10] (fun u wq => u = .int .i64 j ∧ Below w.heap.size w wq) (fun _ _ => 0)
      case atStart => exact ⟨rfl, bt HB.out b2⟩
      case round =>
        obtain ⟨rfl, hb⟩ := hrel
        have HB2 := hide hb
        clear hb b2
        have C2 := CIH.out j (by omega) (by omega)
        rw [HI.out] at C2
        go_wp2_with (go_at_call 142; (with_reducible refine (C2 _).mono ?_); rintro e w3 ⟨rfl, b3⟩)
        go_loopw [10, 12] (fun u v wq => ∃ c : Nat, u = .int .i64 (j + (c : Int)) ∧ (∀ k : Nat, k < c → inW f n m i (j + (k : Int)) = true) ∧ (c : Int) ≤ 262144 - j ∧ wq.ownsRow w.heap.size 2 1 v c (rowR f n m i j c) ∧ Below w.heap.size w wq) (fun u _ _ => (262144 - intOf u).toNat)
        case atStart => exact ⟨0, by simp, fun k hk => absurd hk (by omega), by omega, World.ownsRow_nil _ _ _ _, bt HB2.out b3⟩
        case round =>
          obtain ⟨c, rfl, hall, hcb, hown, hb⟩ := hrel
          have HA := hide hall
          have HB3 := hide hb
          have HO := hide hown
          clear hall hb hown b3 C1 C2
          have C3 := CIH.out (j + (c : Int)) (by omega) (by omega)
          by_cases hp : inW f n m i (j + (c : Int)) = true
          · obtain ⟨q0, q1⟩ := BDH.out _ hp
            rw [hp] at C3
            have HP := hide hp
            clear hp
            have C4 := CWH.out (j + (c : Int)) (by omega) (by omega)
            go_wp2_with (first
              | (go_at_call 142; (with_reducible refine (C3 _).mono ?_); rintro e w4 ⟨rfl, b4⟩)
              | (go_at_call 143; (with_reducible refine (C4 _).mono ?_); rintro e w5 ⟨rfl, b5⟩)
              | (at_builtin; refine wpList_append_own _ rfl _ _ 47 rfl w.heap.size 2 i0 (.int .i64 0) 1 8 Tryz.underlying47 hi hz0 hz1 hz2 rfl (by decide) _ _ _ rfl ((owns_below (owns_below HO.out b4) b5).alloc _) ⟨w5.heap.size, 0, none⟩ 1 1 [.int .i64 (weightR f n m i (j + (c : Int)))] rfl rfl ?c1 ?c2 ?c3 ?c4 ?c5 ?_))
            case c1 =>
              intro p u hp
              match p, hp with
              | 0, hp => simp at hp; subst hp; simp [Addr.add]
            case c2 => intro u hu; simp at hu; subst hu; rfl
            case c3 => unfold maxLen; omega
            case c4 => omega
            case c5 => have := HB3.out.size; have := b4.size; have := b5.size; simp; omega
            intro v' w6 hown' hgrow _
            have R := row_more (bt (bt HB3.out b4) b5) (owns_below (owns_below HO.out b4) b5) hown' hgrow
            clear hown' hgrow
            go_wp2
            go_roundw
            case rel => exact ⟨c + 1, by go_num, fun k hk => by
              by_cases e : k = c
              · subst e; exact HP.out
              · exact HA.out k (by omega), by omega, R.1, R.2⟩
            case measure => simp [intOf]; omega
          · have hp' : inW f n m i (j + (c : Int)) = false := by simpa using hp
            rw [hp'] at C3
            have HP := hide hp'
            clear hp hp'
            go_wp2_with (go_at_call 142; (with_reducible refine (C3 _).mono ?_); rintro e w4 ⟨rfl, b4⟩)
            have c0 : 0 < c := by
              rcases Nat.eq_zero_or_pos c with h | h
              · subst h
                have := HP.out
                rw [show j + ((0 : Nat) : Int) = j by omega, HI.out] at this
                cases this
              · exact h
            exact bodyPost_ret (v := .tuple #[.int .i64 j, _]) (by simp [results, Tryz.results123, go_sem]) rfl ⟨j, c, _, ⟨c0, hp1.out, HA.out, HP.out⟩, by omega, by omega, by omega, rfl, owns_below HO.out b4, bt HB3.out b4⟩
end Go.Proofs.YtaafhjngnjjcmaaGreatDoor
