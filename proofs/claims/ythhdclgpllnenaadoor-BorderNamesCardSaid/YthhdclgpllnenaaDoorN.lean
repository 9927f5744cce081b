/- Plain arithmetic for this seat: quotients of numbers with signs, cut, downwards and to the nearest. No program text in sight. -/
import Derived.Test.YthhdclgpllnenaaDoorM
namespace Go.Proofs.YthhdclgpllnenaaDoor

def modF (a b : Int) : Int := if b = 0 then 0 else floorR a b
theorem modF_of {a b : Int} (h : b ≠ 0) : modF a b = floorR a b := if_neg h
theorem tdiv_pp {x d : Int} (h0 : 0 ≤ x) : x.tdiv d = x / d := Int.tdiv_eq_ediv_of_nonneg h0
theorem tmod_pp {x d : Int} (h0 : 0 ≤ x) : x.tmod d = x % d := Int.tmod_eq_emod_of_nonneg h0
theorem mod_below {x d : Int} (hd : 0 < d) : (-x) % d = if 0 < x % d then d - x % d else 0 := by
  have e := Int.mul_ediv_add_emod x d
  have r0 := Int.emod_nonneg x (Int.ne_of_gt hd)
  have r1 := Int.emod_lt_of_pos x hd
  split
  · exact mod_of (q := -(x / d + 1)) (by rw [Int.mul_neg, Int.mul_add]; omega) (by omega) (by omega)
  · exact mod_of (q := -(x / d)) (by rw [Int.mul_neg]; omega) (by omega) (by omega)
/-- A quotient by a positive number: of a (its sign s), by b: the four ways. 'x', 'd': without signs. -/
structure Ways (a b x d T M F R : Int) : Prop where
  t : a.tdiv b = T
  m : a.tmod b = M
  f : floorQ a b = F
  r : floorR a b = R
theorem ways_pp {a b : Int} (h0 : 0 ≤ a) (hb : 0 < b) : Ways a b a b (a / b) (a % b) (a / b) (a % b) :=
  ⟨tdiv_pp h0, tmod_pp h0, if_neg (by omega), if_neg (by omega)⟩
theorem ways_nn {x d : Int} (h0 : 0 ≤ x) (hd : 0 < d) : Ways (-x) (-d) x d (x / d) (-(x % d)) (x / d) (-(x % d)) := by
  refine ⟨?_, ?_, ?_, ?_⟩
  · rw [Int.tdiv_neg, Int.neg_tdiv, Int.neg_neg, tdiv_pp h0]
  · rw [Int.tmod_neg, Int.neg_tmod, tmod_pp h0]
  · unfold floorQ; rw [if_pos (by omega), Int.neg_neg, Int.neg_neg]
  · unfold floorR; rw [if_pos (by omega), Int.neg_neg, Int.neg_neg]
theorem ways_np {x d : Int} (h0 : 0 ≤ x) (hd : 0 < d) : Ways (-x) d x d (-(x / d)) (-(x % d)) (-(x / d + (if 0 < x % d then 1 else 0))) (if 0 < x % d then d - x % d else 0) := by
  refine ⟨?_, ?_, ?_, ?_⟩
  · rw [Int.neg_tdiv, tdiv_pp h0]
  · rw [Int.neg_tmod, tmod_pp h0]
  · unfold floorQ; rw [if_neg (by omega), floor_below hd]
  · unfold floorR; rw [if_neg (by omega), mod_below hd]
theorem ways_pn {x d : Int} (h0 : 0 ≤ x) (hd : 0 < d) : Ways x (-d) x d (-(x / d)) (x % d) (-(x / d + (if 0 < x % d then 1 else 0))) (-(if 0 < x % d then d - x % d else 0)) := by
  refine ⟨?_, ?_, ?_, ?_⟩
  · rw [Int.tdiv_neg, tdiv_pp h0]
  · rw [Int.tmod_neg, tmod_pp h0]
  · unfold floorQ; rw [if_pos (by omega), Int.neg_neg, floor_below hd]
  · unfold floorR; rw [if_pos (by omega), Int.neg_neg, mod_below hd]
theorem quo_le {x d : Int} (h0 : 0 ≤ x) (hd : 0 < d) : 0 ≤ x / d ∧ x / d ≤ x := ⟨Int.ediv_nonneg h0 (by omega), Int.ediv_le_self _ h0⟩
theorem quo_le2 {x d : Int} (h0 : 0 ≤ x) (hd : 2 ≤ d) : 2 * (x / d) ≤ x := by
  have e := Int.mul_ediv_add_emod x d
  have r0 := Int.emod_nonneg x (b := d) (by omega)
  have q0 := (quo_le h0 (d := d) (by omega)).1
  have : 2 * (x / d) ≤ d * (x / d) := Int.mul_le_mul_of_nonneg_right hd q0
  omega
theorem rest_two {x d : Int} (hd : 0 < d) (h : x % d ≠ 0) : 2 ≤ d := by
  by_cases h1 : d = 1
  · subst h1; exact absurd (Int.emod_one x) h
  · omega
theorem rest_in {x d : Int} (hd : 0 < d) : 0 ≤ x % d ∧ x % d < d := ⟨Int.emod_nonneg x (Int.ne_of_gt hd), Int.emod_lt_of_pos x hd⟩
/-- Where something is left the quotient downwards is far from both ends. -/
theorem floorR_in (a b : Int) : (0 < b → 0 ≤ floorR a b ∧ floorR a b < b) ∧ (b < 0 → b < floorR a b ∧ floorR a b ≤ 0) := by
  refine ⟨fun h => ?_, fun h => ?_⟩
  · unfold floorR; rw [if_neg (by omega)]; exact rest_in h
  · unfold floorR; rw [if_pos h]; have := rest_in (x := -a) (d := -b) (by omega); omega
/-- The quotient downwards out of the one that is cut. -/
structure Cut (a b : Int) : Prop where
  f0 : a.tmod b = 0 → floorQ a b = a.tdiv b
  f1 : (a < 0 ↔ b < 0) → floorQ a b = a.tdiv b
  f2 : a.tmod b ≠ 0 → ¬ (a < 0 ↔ b < 0) → floorQ a b = a.tdiv b - 1
  r0 : a.tmod b = 0 → floorR a b = 0
  r1 : a.tmod b ≠ 0 → (a.tmod b < 0 ↔ b < 0) → floorR a b = a.tmod b
  r2 : a.tmod b ≠ 0 → ¬ (a.tmod b < 0 ↔ b < 0) → floorR a b = a.tmod b + b
  q0 : -9223372036854775808 ≤ floorQ a b
  q1 : a.tmod b ≠ 0 ∨ ¬ (a = -9223372036854775808 ∧ b = -1) → floorQ a b ≤ 9223372036854775807
  m0 : -9223372036854775808 ≤ a.tmod b
  m1 : a.tmod b ≤ 9223372036854775807
theorem cut_any {a b : Int} (h0 : -9223372036854775808 ≤ a) (h1 : a ≤ 9223372036854775807) (k0 : -9223372036854775808 ≤ b) (k1 : b ≤ 9223372036854775807) (hb : b ≠ 0) : Cut a b := by
  by_cases ha : a < 0
  · obtain ⟨x, rfl⟩ : ∃ x, a = -x := ⟨-a, by omega⟩
    by_cases hn : b < 0
    · obtain ⟨d, rfl⟩ : ∃ d, b = -d := ⟨-b, by omega⟩
      have W := ways_nn (x := x) (d := d) (by omega) (by omega)
      have q := quo_le (x := x) (d := d) (by omega) (by omega)
      have r := rest_in (x := x) (d := d) (by omega)
      have q2 : 2 ≤ d → 2 * (x / d) ≤ x := quo_le2 (by omega)
      have t := W.t; have m := W.m; have f := W.f; have g := W.r
      rw [← t] at f
      rw [← m] at g
      generalize x / d = Q at *
      generalize x % d = R at *
      exact ⟨by omega, by omega, by omega, by omega, by omega, by omega, by omega, by omega, by omega, by omega⟩
    · have W := ways_np (x := x) (d := b) (by omega) (by omega)
      have q := quo_le (x := x) (d := b) (by omega) (by omega)
      have q2 : 2 ≤ b → 2 * (x / b) ≤ x := quo_le2 (by omega)
      have r := rest_in (x := x) (d := b) (by omega)
      have r2 : x % b ≠ 0 → 2 ≤ b := rest_two (by omega)
      have t := W.t; have m := W.m; have f := W.f; have g := W.r
      generalize x / b = Q at *
      generalize x % b = R at *
      split at f <;> split at g <;> exact ⟨by omega, by omega, by omega, by omega, by omega, by omega, by omega, by omega, by omega, by omega⟩
  · by_cases hn : b < 0
    · obtain ⟨d, rfl⟩ : ∃ d, b = -d := ⟨-b, by omega⟩
      have W := ways_pn (x := a) (d := d) (by omega) (by omega)
      have q := quo_le (x := a) (d := d) (by omega) (by omega)
      have q2 : 2 ≤ d → 2 * (a / d) ≤ a := quo_le2 (by omega)
      have r := rest_in (x := a) (d := d) (by omega)
      have r2 : a % d ≠ 0 → 2 ≤ d := rest_two (by omega)
      have t := W.t; have m := W.m; have f := W.f; have g := W.r
      generalize a / d = Q at *
      generalize a % d = R at *
      split at f <;> split at g <;> exact ⟨by omega, by omega, by omega, by omega, by omega, by omega, by omega, by omega, by omega, by omega⟩
    · have W := ways_pp (a := a) (b := b) (by omega) (by omega)
      have q := quo_le (x := a) (d := b) (by omega) (by omega)
      have r := rest_in (x := a) (d := b) (by omega)
      have t := W.t; have m := W.m; have f := W.f; have g := W.r
      generalize a / b = Q at *
      generalize a % b = R at *
      exact ⟨by omega, by omega, by omega, by omega, by omega, by omega, by omega, by omega, by omega, by omega⟩
end Go.Proofs.YthhdclgpllnenaaDoor
