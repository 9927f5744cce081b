/- Parts, joined. -/
import Derived.Test.YtjmjgokgjeankaaDoorJ12
/- What each source sample weighs: the law on rows and windows, out of what the program's own calls answer. -/
namespace Go.Proofs.YtjmjgokgjeankaaDoor
open Go.RowKit


def I64 (x : Int) : Prop := -9223372036854775808 ≤ x ∧ x ≤ 9223372036854775807
def Row0C : Prop := ∀ (f n m i : Int), I64 f → I64 n → I64 m → I64 i → ¬ MayP f n m i → ∀ w : World, Kinds w → Calls Tryd.prog 20 #[.int .i64 f, .int .i64 n, .int .i64 m, .int .i64 i] w fun e w' => e = .returned (.tuple #[.int .i64 0, .slice none 0 0]) ∧ Below w.heap.size w w'
def WinC : Prop := ∀ (f n m i j0 : Int) (c : Nat), MayP f n m i → IsWin f n m i j0 c → ∀ w : World, Kinds w → Calls Tryd.prog 28 #[.int .i64 f, .int .i64 n, .int .i64 m, .int .i64 i] w fun e w' => e = .returned (.tuple #[.int .i64 j0, .int .i64 (c : Int)]) ∧ Below w.heap.size w w'
def Win0C : Prop := ∀ (f n m i : Int), I64 f → I64 n → I64 m → I64 i → ¬ MayP f n m i → ∀ w : World, Kinds w → Calls Tryd.prog 28 #[.int .i64 f, .int .i64 n, .int .i64 m, .int .i64 i] w fun e w' => e = .returned (.tuple #[.int .i64 0, .int .i64 0]) ∧ Below w.heap.size w w'
theorem win_iff {f n m i j0 : Int} {c : Nat} (m0 : 1 ≤ m) (h : IsWin f n m i j0 c) (j : Int) : inW f n m i j = true ↔ j0 ≤ j ∧ j < j0 + c := by
  obtain ⟨h0, h1, h2, h3⟩ := h
  have ha : inW f n m i j0 = true := by have := h2 0 h0; simpa using this
  have hl : inW f n m i (j0 + (c - 1 : Nat)) = true := h2 (c - 1) (by omega)
  constructor
  · intro hj
    constructor
    · by_cases q : j0 ≤ j
      · exact q
      · have := inW_mid m0 (show j ≤ j0 - 1 by omega) (show j0 - 1 ≤ j0 by omega) hj ha
        rw [h1] at this; cases this
    · by_cases q : j < j0 + c
      · exact q
      · have := inW_mid m0 (show j0 + (c - 1 : Nat) ≤ j0 + (c : Int) by omega) (show j0 + (c : Int) ≤ j by omega) hl hj
        rw [h3] at this; cases this
  · rintro ⟨q0, q1⟩
    have := h2 (j - j0).toNat (by omega)
    rw [show j0 + ((j - j0).toNat : Int) = j by omega] at this
    exact this
end Go.Proofs.YtjmjgokgjeankaaDoor

/- What each source sample weighs: the laws on names and on boxes, out of what the program's own calls answer. -/
namespace Go.Proofs.YtjmjgokgjeankaaDoor
open Go.RowKit


def nameF (f : Int) : Value := if f = 0 then .string ⟨#[98, 111, 120]⟩ else if f = 1 then .string ⟨#[99, 117, 98, 105, 99]⟩ else if f = 2 then .string ⟨#[108, 97, 110, 99, 122, 111, 115]⟩ else .string ⟨#[]⟩
def NameC : Prop := ∀ f : Int, I64 f → ∀ w : World, Kinds w → Calls Tryd.prog 18 #[.int .i64 f] w fun e w' => e = .returned (nameF f) ∧ Below w.heap.size w w'
/-- Box's parts, and their sum. -/
def partB (n m i j : Int) : Int := min ((i + 1) * n) ((j + 1) * m) - max (i * n) (j * m)
def sumB (n m i j0 : Int) : Nat → Int
  | 0 => 0
  | k + 1 => sumB n m i j0 k + weightR 0 n m i (j0 + (k : Nat))
theorem box_ends {n m i j0 : Int} {c : Nat} (n0 : 1 ≤ n) (m0 : 1 ≤ m) (i0 : 0 ≤ i) (i1 : i < m) (h : IsWin 0 n m i j0 c) :
    0 ≤ j0 ∧ j0 + c ≤ n ∧ j0 * m ≤ i * n ∧ (i + 1) * n ≤ (j0 + c) * m := by
  obtain ⟨h0, h1, h2, h3⟩ := h
  have a := h2 0 h0
  have b := h2 (c - 1) (by omega)
  have h1' : ¬ (inW 0 n m i (j0 - 1) = true) := by rw [h1]; decide
  have h3' : ¬ (inW 0 n m i (j0 + c) = true) := by rw [h3]; decide
  rw [inW_box] at a b h1' h3'
  have e1 : j0 + ((c - 1 : Nat) : Int) + 1 = j0 + c := by omega
  have e2 : j0 + ((0 : Nat) : Int) = j0 := by omega
  have e3 : j0 - 1 + 1 = j0 := by omega
  rw [e1] at b
  rw [e2] at a
  rw [e3] at h1'
  have q0 : 0 ≤ i * n := Int.mul_nonneg i0 (by omega)
  have s1 : (j0 - 1) * m = j0 * m - m := by rw [Int.sub_mul, Int.one_mul]
  have s2 : (j0 + 1) * m = j0 * m + m := by rw [Int.add_mul, Int.one_mul]
  have s3 : (j0 + (c : Int) + 1) * m = (j0 + c) * m + m := by rw [Int.add_mul, Int.one_mul]
  have s4 : (j0 + ((c - 1 : Nat) : Int)) * m = (j0 + c) * m - m := by rw [show j0 + ((c - 1 : Nat) : Int) = j0 + c - 1 by omega, Int.sub_mul, Int.one_mul]
  have s5 : (i + 1) * n = i * n + n := by rw [Int.add_mul, Int.one_mul]
  rw [s2] at a
  rw [s4] at b
  rw [s1] at h1'
  rw [s3] at h3'
  have t1 : j0 * m ≤ i * n := by omega
  have t2 : (i + 1) * n ≤ (j0 + c) * m := by omega
  refine ⟨?_, ?_, t1, t2⟩
  · by_cases g : 0 ≤ j0
    · exact g
    · have := Int.mul_le_mul_of_nonneg_right (show j0 ≤ -1 by omega) (show 0 ≤ m by omega)
      omega
  · by_cases g : j0 + c ≤ n
    · exact g
    · have u := Int.mul_le_mul_of_nonneg_right (show n + 1 ≤ j0 + c by omega) (show 0 ≤ m by omega)
      have v := Int.mul_le_mul_of_nonneg_right (show i + 1 ≤ m by omega) (show 0 ≤ n by omega)
      rw [Int.add_mul, Int.one_mul, Int.mul_comm n m] at u
      omega
theorem box_part {n m i j : Int} (n0 : 1 ≤ n) (n1 : n ≤ 65536) (m0 : 1 ≤ m) (h : inW 0 n m i j = true) : 1 ≤ partB n m i j ∧ partB n m i j ≤ n ∧ 0 ≤ weightR 0 n m i j ∧ weightR 0 n m i j ≤ 1073741824 ∧ -n ≤ 2 * (n * weightR 0 n m i j) - 2147483648 * partB n m i j ∧ 2 * (n * weightR 0 n m i j) - 2147483648 * partB n m i j ≤ n := by
  rw [inW_box] at h
  have s5 : (i + 1) * n = i * n + n := by rw [Int.add_mul, Int.one_mul]
  have s2 : (j + 1) * m = j * m + m := by rw [Int.add_mul, Int.one_mul]
  have p : 1 ≤ partB n m i j ∧ partB n m i j ≤ n := by unfold partB; omega
  have e : weightR 0 n m i j = divF (partB n m i j * 1073741824) n := if_pos rfl
  have q := near_in (X := partB n m i j * 1073741824) (d := n) (m := 1073741824) (by omega) (by omega) (by omega)
  have r := near_err (X := partB n m i j * 1073741824) (d := n) (by omega)
  rw [divF_of (by omega), holdI_in (by omega) (by omega)] at e
  rw [e]
  omega
def endB (n m i j0 : Int) (k : Nat) : Int := min ((i + 1) * n) ((j0 + (k : Int) + 1) * m) - i * n
/-- What has been gathered behind so many. -/
theorem sumB_at {n m i j0 : Int} {c : Nat} (n0 : 1 ≤ n) (n1 : n ≤ 65536) (m0 : 1 ≤ m) (i0 : 0 ≤ i) (i1 : i < m) (h : IsWin 0 n m i j0 c) (k : Nat) (hk : k < c) :
    -(((k : Int) + 1) * n) ≤ 2 * (n * sumB n m i j0 (k + 1)) - 2147483648 * endB n m i j0 k ∧ 2 * (n * sumB n m i j0 (k + 1)) - 2147483648 * endB n m i j0 k ≤ ((k : Int) + 1) * n ∧ 0 ≤ sumB n m i j0 (k + 1) ∧ sumB n m i j0 (k + 1) ≤ ((k : Int) + 1) * 1073741824 := by
  induction k with
  | zero =>
    obtain ⟨_, _, t1, _⟩ := box_ends n0 m0 i0 i1 h
    obtain ⟨a1, a2, a3, a4, a5, a6⟩ := box_part n0 n1 m0 (h.2.2.1 0 hk)
    have e : partB n m i (j0 + ((0 : Nat) : Int)) = endB n m i j0 0 := by
      unfold partB endB
      rw [show j0 + ((0 : Nat) : Int) = j0 by omega]
      omega
    rw [← e]
    have s : sumB n m i j0 (0 + 1) = weightR 0 n m i (j0 + ((0 : Nat) : Int)) := by
      show 0 + weightR 0 n m i (j0 + ((0 : Nat) : Int)) = _; omega
    rw [s]
    have s2 : (((0 : Nat) : Int) + 1) * n = n := by rw [show ((0 : Nat) : Int) + 1 = 1 from rfl, Int.one_mul]
    rw [s2]
    omega
  | succ k ih =>
    have IH := ih (by omega)
    obtain ⟨a1, a2, a3, a4, a5, a6⟩ := box_part n0 n1 m0 (h.2.2.1 (k + 1) hk)
    have p := h.2.2.1 k (by omega)
    have q := h.2.2.1 (k + 1) hk
    rw [inW_box] at p q
    have e0 : j0 + ((k + 1 : Nat) : Int) = j0 + (k : Int) + 1 := by omega
    rw [e0] at q a1 a2 a3 a4 a5 a6
    have e : partB n m i (j0 + (k : Int) + 1) = endB n m i j0 (k + 1) - endB n m i j0 k := by
      unfold partB endB
      rw [e0]
      omega
    have s : sumB n m i j0 (k + 1 + 1) = sumB n m i j0 (k + 1) + weightR 0 n m i (j0 + (k : Int) + 1) := by
      show sumB n m i j0 (k + 1) + weightR 0 n m i (j0 + ((k + 1 : Nat) : Int)) = _
      rw [e0]
    rw [s, Int.mul_add]
    have s2 : (((k + 1 : Nat) : Int) + 1) * n = ((k : Int) + 1) * n + n := by
      rw [show ((k + 1 : Nat) : Int) + 1 = ((k : Int) + 1) + 1 by omega, Int.add_mul ((k : Int) + 1), Int.one_mul]
    rw [s2]
    omega
/-- Box's weights come to one, nearly. -/
theorem sumB_end {n m i j0 : Int} {c : Nat} (n0 : 1 ≤ n) (n1 : n ≤ 65536) (m0 : 1 ≤ m) (i0 : 0 ≤ i) (i1 : i < m) (h : IsWin 0 n m i j0 c) : sumB n m i j0 c - 1073741824 ≤ c ∧ 1073741824 - sumB n m i j0 c ≤ c := by
  have h0 := h.1
  obtain ⟨k, rfl⟩ : ∃ k, c = k + 1 := ⟨c - 1, by omega⟩
  obtain ⟨_, _, _, t2⟩ := box_ends n0 m0 i0 i1 h
  have S := sumB_at n0 n1 m0 i0 i1 h k (by omega)
  have e : endB n m i j0 k = n := by
    unfold endB
    rw [show j0 + ((k + 1 : Nat) : Int) = j0 + (k : Int) + 1 by omega] at t2
    have s5 : (i + 1) * n = i * n + n := by rw [Int.add_mul, Int.one_mul]
    omega
  rw [e] at S
  obtain ⟨x, y, _, _⟩ := S
  generalize sumB n m i j0 (k + 1) = T at *
  constructor
  · by_cases g : T - 1073741824 ≤ ((k + 1 : Nat) : Int)
    · exact g
    · have u := Int.mul_le_mul_of_nonneg_left (show ((k : Int) + 1) + 1073741824 ≤ T by omega) (show 0 ≤ n by omega)
      rw [Int.mul_add, Int.mul_comm n ((k : Int) + 1)] at u
      have v := Int.mul_nonneg (show 0 ≤ (k : Int) + 1 by omega) (show 0 ≤ n by omega)
      have w : n ≤ ((k : Int) + 1) * n := by
        have := Int.mul_le_mul_of_nonneg_right (show 1 ≤ (k : Int) + 1 by omega) (show 0 ≤ n by omega)
        omega
      omega
  · by_cases g : 1073741824 - T ≤ ((k + 1 : Nat) : Int)
    · exact g
    · have u := Int.mul_le_mul_of_nonneg_left (show T ≤ 1073741824 - ((k : Int) + 1) by omega) (show 0 ≤ n by omega)
      rw [Int.mul_sub, Int.mul_comm n ((k : Int) + 1)] at u
      have w : n ≤ ((k : Int) + 1) * n := by
        have := Int.mul_le_mul_of_nonneg_right (show 1 ≤ (k : Int) + 1 by omega) (show 0 ≤ n by omega)
        omega
      omega
end Go.Proofs.YtjmjgokgjeankaaDoor
