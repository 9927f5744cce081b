/- Weights that come to one: what is made can be apportioned. -/
import Derived.Test.YtcfbpilhgnofpaaS06F
namespace Go.Proofs.Ytcfbpilhgnofpaa
open Go.RowKit


theorem termE_down {r : Int} (h0 : 0 ≤ r) (h1 : r ≤ 1099511627776) (n : Nat) : 0 ≤ termE r (n + 1) ∧ termE r (n + 1) ≤ termE r n := by
  obtain ⟨a0, a1⟩ := termE_in h0 h1 n
  have p0 : 0 ≤ termE r n * r := Int.mul_nonneg a0 h0
  have p1 : termE r n * r ≤ termE r n * (((n : Int) + 1) * 1099511627776) := Int.mul_le_mul_of_nonneg_left (by omega) a0
  have q := near_in (X := termE r n * r) (d := ((n : Int) + 1) * 1099511627776) (m := termE r n) (by omega) p0 p1
  show 0 ≤ divF _ _ ∧ divF _ _ ≤ _
  rw [divF_of (by omega), holdI_in (by omega) (by omega)]
  exact q
theorem sumE_pos {r : Int} (h0 : 0 ≤ r) (h1 : r ≤ 1099511627776) (n : Nat) :
    (n % 2 = 0 → termE r n ≤ sumE r n ∧ sumE r n ≤ 1099511627776) ∧ (n % 2 = 1 → 0 ≤ sumE r n ∧ sumE r n ≤ 1099511627776 - termE r n) := by
  induction n with
  | zero => exact ⟨fun _ => ⟨Int.le_refl _, Int.le_refl _⟩, fun h => by omega⟩
  | succ n ih =>
    obtain ⟨d0, d1⟩ := termE_down h0 h1 n
    have e : sumE r (n + 1) = if n % 2 = 0 then sumE r n - termE r (n + 1) else sumE r n + termE r (n + 1) := rfl
    rw [e]
    by_cases g : n % 2 = 0
    · have := ih.1 g
      rw [if_pos g]
      exact ⟨fun h => by omega, fun _ => by omega⟩
    · have := ih.2 (by omega)
      rw [if_neg g]
      exact ⟨fun _ => by omega, fun h => by omega⟩
theorem shiftF_low {x : Int} (n : Int) (h0 : 0 ≤ x) : 0 ≤ shiftF x n ∧ shiftF x n ≤ x := by
  unfold shiftF
  split
  · omega
  · split
    · omega
    · have a0 : 0 ≤ x / 2 ^ (n.toNat - 1) := Int.ediv_nonneg h0 (Int.le_of_lt (Int.pow_pos (by decide)))
      have a1 : x / 2 ^ (n.toNat - 1) ≤ x := Int.ediv_le_self _ h0
      omega
theorem expoF_unit {t : Int} (h0 : 0 ≤ t) : 0 ≤ expoF t ∧ expoF t ≤ 1099511627776 := by
  have e : posI t = t := by unfold posI; omega
  have s := (sumE_pos (r := t % 762123384786) (by omega) (by omega) 16).1 rfl
  have p := (termE_in (r := t % 762123384786) (by omega) (by omega) 16).1
  unfold expoF
  rw [e]
  have := shiftF_low (x := sumE (t % 762123384786) 16) (t / 762123384786) (by omega)
  omega
theorem gaussF_unit (d s : Int) : 0 ≤ gaussF d s ∧ gaussF d s ≤ 1073741824 := by
  have e := expoF_unit (ratioF_pos d s)
  unfold gaussF shiftF
  rw [if_neg (by omega), if_neg (by omega), show (10 : Int).toNat - 1 = 9 from rfl, show (2 : Int) ^ 9 = 512 from rfl]
  omega
theorem gaussF_centre {s : Int} (h0 : 1 ≤ s) (h1 : s ≤ 4194304) : gaussF 0 s = 1073741824 := by
  have e : ratioF 0 s = 0 := by
    unfold ratioF
    rw [if_neg (by omega)]
    have p := Int.mul_pos (show 0 < s by omega) (show 0 < s by omega)
    rw [show (0 : Int) * 0 * 2147483648 * 1099511627776 = 0 from rfl]
    generalize s * s = q at *
    have z : nearQ 0 q = 0 := by
      unfold nearQ
      rw [if_neg (by omega)]
      exact Int.ediv_eq_zero_of_lt (by omega) (by omega)
    rw [divF_of (by omega), z, holdI_in (by omega) (by omega)]
  unfold gaussF
  rw [e, expoF_low (by omega)]
  rfl
theorem sum_ge {l : List Int} (h : ∀ x ∈ l, 0 ≤ x) : 0 ≤ l.sum ∧ ∀ x ∈ l, x ≤ l.sum := by
  induction l with
  | nil => exact ⟨by simp, fun x hx => by cases hx⟩
  | cons a l ih =>
    obtain ⟨i0, i1⟩ := ih (fun x hx => h x (by simp [hx]))
    have a0 := h a (by simp)
    rw [List.sum_cons]
    refine ⟨by omega, fun x hx => ?_⟩
    rcases List.mem_cons.1 hx with rfl | hx
    · omega
    · have := i1 x hx; omega
theorem gauss_fits {s : Int} (h0 : 1 ≤ s) (h1 : s ≤ 4194304) : Fits (gaussR s) ∧ (gaussR s).length ≤ 400 := by
  have r0 : 0 ≤ radG s := by unfold radG; omega
  have r1 : radG s ≤ 192 := by unfold radG; omega
  have len : (gaussR s).length = 2 * (radG s).toNat + 1 := gaussTo_len _ _ _
  have mem : ∀ x ∈ gaussR s, 0 ≤ x ∧ x ≤ 1073741824 := by
    intro x hx
    unfold gaussR gaussTo at hx
    obtain ⟨k, _, rfl⟩ := List.mem_map.1 hx
    exact gaussF_unit _ _
  have small : ∀ x ∈ gaussR s, smallW x := fun x hx => by have := mem x hx; unfold smallW; omega
  have mid : (1073741824 : Int) ∈ gaussR s := by
    unfold gaussR gaussTo
    refine List.mem_map.2 ⟨(radG s).toNat, List.mem_range.2 (by omega), ?_⟩
    rw [show (((radG s).toNat : Nat) : Int) - radG s = 0 by omega]
    exact gaussF_centre h0 h1
  have e := (sumH_small (gaussR s) small (by omega)).1
  have g := (sum_ge (fun x hx => (mem x hx).1)).2 _ mid
  exact ⟨⟨by omega, by omega, small, by omega⟩, by omega⟩
theorem sum_rep (n : Nat) (x : Int) : (List.replicate n x).sum = (n : Int) * x := by
  induction n with
  | zero => simp
  | succ n ih =>
    rw [List.replicate_succ, List.sum_cons, ih, show ((n + 1 : Nat) : Int) = (n : Int) + 1 by omega, Int.add_mul, Int.one_mul]
    omega
theorem near_err6 {X d : Int} (hd : 0 < d) : -d ≤ 2 * (d * nearQ X d) - 2 * X ∧ 2 * (d * nearQ X d) - 2 * X ≤ d := by
  unfold nearQ
  rw [if_neg (by omega)]
  have e := Int.mul_ediv_add_emod (2 * X + d) (2 * d)
  have r0 := Int.emod_nonneg (2 * X + d) (show 2 * d ≠ 0 by omega)
  have r1 := Int.emod_lt_of_pos (2 * X + d) (show 0 < 2 * d by omega)
  rw [Int.mul_assoc] at e
  omega
theorem ones_out (r : Nat) (h : r ≤ 511) : userR (List.replicate (2 * r + 1) 1) = List.replicate (2 * r + 1) (divF 1073741824 ((2 * r + 1 : Nat) : Int)) := by
  unfold userR
  rw [sizeH_ones _ (by omega), List.map_replicate, Int.one_mul]
theorem ones_fits (r : Nat) (h : r ≤ 511) : Fits (userR (List.replicate (2 * r + 1) 1)) ∧ (userR (List.replicate (2 * r + 1) 1)).length ≤ 1023 := by
  rw [ones_out r h]
  obtain ⟨n, hn⟩ : ∃ n, 2 * r + 1 = n := ⟨_, rfl⟩
  rw [hn]
  have n0 : 1 ≤ n := by omega
  have n1 : n ≤ 1023 := by omega
  obtain ⟨a0, a1⟩ := near_err6 (X := 1073741824) (d := (n : Int)) (by omega)
  have q := near_in (X := 1073741824) (d := (n : Int)) (m := 1073741824) (by omega) (by omega) (by omega)
  rw [divF_of (by omega), holdI_in (by omega) (by omega)]
  generalize nearQ 1073741824 (n : Int) = v at *
  have small : ∀ x ∈ List.replicate n v, smallW x := fun x hx => by
    obtain rfl := List.eq_of_mem_replicate hx
    unfold smallW; omega
  have e := (sumH_small (List.replicate n v) small (by rw [List.length_replicate]; omega)).1
  rw [sum_rep] at e
  refine ⟨⟨by rw [List.length_replicate]; omega, by rw [List.length_replicate]; omega, small, by omega⟩, by rw [List.length_replicate]; omega⟩
end Go.Proofs.Ytcfbpilhgnofpaa
