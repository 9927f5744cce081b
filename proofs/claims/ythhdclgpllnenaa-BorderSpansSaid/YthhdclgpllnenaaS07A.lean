/- What stands beyond the edge: plain arithmetic. No number of the program stands in it. -/
import Derived.Test.YthhdclgpllnenaaN
namespace Go.Proofs.Ythhdclgpllnenaa


/-- What stands for j, of n, by a policy. -/
def EdgeP (p n : Int) : Prop := 0 ≤ p ∧ p ≤ 2 ∧ 1 ≤ n ∧ n ≤ 65536
def edgeB (p n : Int) : Bool := decide (0 ≤ p) && decide (p ≤ 2) && decide (1 ≤ n) && decide (n ≤ 65536)
theorem edgeB_iff (p n : Int) : edgeB p n = true ↔ EdgeP p n := by unfold edgeB EdgeP; simp; omega
def clampE (j n : Int) : Int := if j < 0 then 0 else if n ≤ j then n - 1 else j
def mirrorE (j n : Int) : Int := if j % (2 * n) < n then j % (2 * n) else 2 * n - 1 - j % (2 * n)
def atF (p j n : Int) : Int := if edgeB p n = true then (if p = 0 then clampE j n else if p = 1 then mirrorE j n else j % n) else 0
theorem atF_no {p j n : Int} (h : ¬ EdgeP p n) : atF p j n = 0 := if_neg fun g => h ((edgeB_iff p n).1 g)
theorem edge_mk {p n : Int} (h0 : 0 ≤ p) (h1 : p ≤ 2) (n0 : 1 ≤ n) (n1 : n ≤ 65536) : edgeB p n = true := (edgeB_iff p n).2 ⟨h0, h1, n0, n1⟩
theorem atF_clamp {j n : Int} (n0 : 1 ≤ n) (n1 : n ≤ 65536) : atF 0 j n = clampE j n := by unfold atF; rw [if_pos (edge_mk (by omega) (by omega) n0 n1), if_pos rfl]
theorem atF_mirror {j n : Int} (n0 : 1 ≤ n) (n1 : n ≤ 65536) : atF 1 j n = mirrorE j n := by unfold atF; rw [if_pos (edge_mk (by omega) (by omega) n0 n1), if_neg (by omega), if_pos rfl]
theorem atF_wrap {j n : Int} (n0 : 1 ≤ n) (n1 : n ≤ 65536) : atF 2 j n = j % n := by unfold atF; rw [if_pos (edge_mk (by omega) (by omega) n0 n1), if_neg (by omega), if_neg (by omega)]
theorem rest_of {m x y : Int} (q : Int) (h : x = m * q + y) (h0 : 0 ≤ y) (h1 : y < m) : x % m = y := mod_of h h0 h1
/-- By once the side, out of by twice. -/
theorem mod_twice {j n : Int} (n0 : 1 ≤ n) : j % n = if j % (2 * n) < n then j % (2 * n) else j % (2 * n) - n := by
  have e := Int.mul_ediv_add_emod j (2 * n)
  have r0 := Int.emod_nonneg j (show 2 * n ≠ 0 by omega)
  have r1 := Int.emod_lt_of_pos j (show 0 < 2 * n by omega)
  generalize j % (2 * n) = r at *
  have e2 : 2 * n * (j / (2 * n)) = n * (2 * (j / (2 * n))) := by rw [Int.mul_comm 2 n, Int.mul_assoc]
  rw [e2] at e
  split
  · exact mod_of (q := 2 * (j / (2 * n))) e.symm r0 (by omega)
  · exact mod_of (q := 2 * (j / (2 * n)) + 1) (by rw [Int.mul_add, Int.mul_one]; omega) (by omega) (by omega)
theorem clampE_in {j n : Int} (n0 : 1 ≤ n) : 0 ≤ clampE j n ∧ clampE j n < n := by unfold clampE; split <;> (try split) <;> omega
theorem mirrorE_in {j n : Int} (n0 : 1 ≤ n) : 0 ≤ mirrorE j n ∧ mirrorE j n < n := by
  have r0 := Int.emod_nonneg j (show 2 * n ≠ 0 by omega)
  have r1 := Int.emod_lt_of_pos j (show 0 < 2 * n by omega)
  unfold mirrorE; split <;> omega
theorem wrapE_in {j n : Int} (n0 : 1 ≤ n) : 0 ≤ j % n ∧ j % n < n := ⟨Int.emod_nonneg j (by omega), Int.emod_lt_of_pos j (by omega)⟩
theorem atF_in {p j n : Int} (h : EdgeP p n) : 0 ≤ atF p j n ∧ atF p j n < n := by
  obtain ⟨p0, p1, n0, n1⟩ := h
  unfold atF
  rw [if_pos (edge_mk p0 p1 n0 n1)]
  split
  · exact clampE_in n0
  · split
    · exact mirrorE_in n0
    · exact wrapE_in n0
theorem atF_i64 (p j n : Int) : 0 ≤ atF p j n ∧ atF p j n ≤ 65535 := by
  by_cases h : EdgeP p n
  · have := atF_in (j := j) h
    have := h.2.2.2
    omega
  · rw [atF_no h]; omega
theorem clampE_self {j n : Int} (h0 : 0 ≤ j) (h1 : j < n) : clampE j n = j := by unfold clampE; rw [if_neg (by omega), if_neg (by omega)]
theorem mirrorE_self {j n : Int} (h0 : 0 ≤ j) (h1 : j < n) : mirrorE j n = j := by unfold mirrorE; rw [Int.emod_eq_of_lt h0 (by omega), if_pos h1]
theorem atF_self {p j n : Int} (h : EdgeP p n) (h0 : 0 ≤ j) (h1 : j < n) : atF p j n = j := by
  obtain ⟨p0, p1, n0, n1⟩ := h
  unfold atF
  rw [if_pos (edge_mk p0 p1 n0 n1), clampE_self h0 h1, mirrorE_self h0 h1, Int.emod_eq_of_lt h0 h1]
  split
  · rfl
  · split <;> rfl
/-! ### Going round -/
theorem wrap_round {j n : Int} : (j + n) % n = j % n := Int.add_emod_right ..
theorem wrap_next {j n : Int} : (j + 1) % n = (j % n + 1) % n := (Int.emod_add_emod ..).symm
theorem wrap_step {j n : Int} (n0 : 1 ≤ n) : (j + 1) % n = if j % n = n - 1 then 0 else j % n + 1 := by
  have e := Int.mul_ediv_add_emod j n
  obtain ⟨r0, r1⟩ := wrapE_in (j := j) n0
  generalize j % n = r at *
  split
  · exact mod_of (q := j / n + 1) (by rw [Int.mul_add, Int.mul_one]; omega) (by omega) (by omega)
  · exact mod_of (q := j / n) (by omega) (by omega) (by omega)
theorem mirror_round {j n : Int} : mirrorE (j + 2 * n) n = mirrorE j n := by unfold mirrorE; rw [wrap_round]
theorem mirror_turn {j n : Int} (n0 : 1 ≤ n) : mirrorE (-1 - j) n = mirrorE j n := by
  have e := Int.mul_ediv_add_emod j (2 * n)
  have r0 := Int.emod_nonneg j (show 2 * n ≠ 0 by omega)
  have r1 := Int.emod_lt_of_pos j (show 0 < 2 * n by omega)
  have g : (-1 - j) % (2 * n) = 2 * n - 1 - j % (2 * n) := by
    refine mod_of (q := -(j / (2 * n)) - 1) ?_ (by omega) (by omega)
    rw [Int.mul_sub, Int.mul_neg, Int.mul_one]; omega
  unfold mirrorE
  rw [g]
  generalize j % (2 * n) = r at *
  split <;> split <;> omega
theorem mirror_step {j n : Int} (n0 : 1 ≤ n) : mirrorE (j + 1) n - mirrorE j n ≤ 1 ∧ mirrorE j n - mirrorE (j + 1) n ≤ 1 := by
  have r0 := Int.emod_nonneg j (show 2 * n ≠ 0 by omega)
  have r1 := Int.emod_lt_of_pos j (show 0 < 2 * n by omega)
  have s := wrap_step (j := j) (n := 2 * n) (by omega)
  unfold mirrorE
  rw [s]
  generalize j % (2 * n) = r at *
  split <;> split <;> (try split) <;> (try split) <;> omega
theorem clamp_step {j n : Int} (n0 : 1 ≤ n) : clampE (j + 1) n - clampE j n ≤ 1 ∧ clampE j n - clampE (j + 1) n ≤ 1 := by
  unfold clampE
  split <;> split <;> (try split) <;> (try split) <;> omega
theorem mirror_min {j n : Int} : min (j % (2 * n)) (2 * n - 1 - j % (2 * n)) = mirrorE j n := by
  unfold mirrorE; split <;> omega
theorem tmod_round {a m : Int} (hm : 0 < m) : a.tmod m % m = a % m ∧ -m < a.tmod m ∧ a.tmod m < m := by
  have e := Int.mul_tdiv_add_tmod a m
  have b0 := Int.tmod_lt_of_pos a hm
  have b1 : -m < a.tmod m := by
    by_cases h : 0 ≤ a
    · have := Int.tmod_nonneg m h; omega
    · have g : a.tmod m = -((-a).tmod m) := by rw [Int.neg_tmod, Int.neg_neg]
      have := Int.tmod_lt_of_pos (-a) hm
      omega
  refine ⟨?_, b1, b0⟩
  have g : a = a.tmod m + m * a.tdiv m := by omega
  conv => rhs; rw [g]
  rw [Int.add_mul_emod_self_left]
end Go.Proofs.Ythhdclgpllnenaa
