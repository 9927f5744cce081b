/- Heads as lists of bytes: blanks and remarks, numbers, what is wrong first, the text. Plain arithmetic; no number of the program stands in it. -/
import Derived.Test.YtoppojilndnghaaDoorS09A
namespace Go.Proofs.YtoppojilndnghaaDoor
open Go.RowKit


/-- Is a byte blank? -/
def blankF (x : Int) : Bool := decide (x = 9 ∨ x = 10 ∨ x = 11 ∨ x = 12 ∨ x = 13 ∨ x = 32)
def digitF (x : Int) : Bool := decide (48 ≤ x ∧ x ≤ 57)
theorem digitF_iff {x : Int} : digitF x = true ↔ 48 ≤ x ∧ x ≤ 57 := by unfold digitF; exact decide_eq_true_iff
theorem blankF_iff {x : Int} : blankF x = true ↔ (x = 9 ∨ x = 10 ∨ x = 11 ∨ x = 12 ∨ x = 13 ∨ x = 32) := by unfold blankF; exact decide_eq_true_iff
/-- Blanks and remarks that bytes begin with (are we in a remark? were there some?); what is left, and whether there were some. -/
def overF : Bool → Bool → List Int → List Int × Bool
  | _, s, [] => ([], s)
  | true, _, x :: t => overF (decide (x ≠ 10 ∧ x ≠ 13)) true t
  | false, s, x :: t => if x = 35 then overF true true t else if blankF x = true then overF false true t else (x :: t, s)
/-- A number that bytes begin with; what is left. -/
def digitsF : Int → List Int → Int × List Int
  | n, [] => (n, [])
  | n, x :: t => if digitF x = true then digitsF (min (10 * n + (x - 48)) 1000000000) t else (n, x :: t)
/-- A number with what stands ahead of it: the code, the number, what is left. -/
def numF (l : List Int) : Int × Int × List Int :=
  if (overF false false l).1 = [] then (3, 0, [])
  else if (overF false false l).2 = true ∧ digitF ((overF false false l).1.getD 0 0) = true then (0, digitsF 0 (overF false false l).1) else (2, 0, [])
/-- A head as a value: channels, width, height, greatest sample, size. -/
structure Hd where
  hc : Int
  hw : Int
  hh : Int
  ht : Int
  hs : Int
def hd0 : Hd := ⟨0, 0, 0, 0, 0⟩
/-- Behind the three numbers. -/
def tailF (len c a b t : Int) (rest : List Int) : Hd × Int :=
  if rest = [] then (hd0, 3)
  else if blankF (rest.getD 0 0) = false then (hd0, 2)
  else if a = 0 ∨ b = 0 ∨ t = 0 ∨ 65535 < t then (hd0, 2)
  else if fitsF a b c = false then (hd0, 5)
  else (⟨c, a, b, t, len - (rest.length : Int) + 1⟩, 0)
/-- Behind the sign. -/
def bodyF (len c : Int) (l : List Int) : Hd × Int :=
  if (numF l).1 ≠ 0 then (hd0, (numF l).1)
  else if (numF (numF l).2.2).1 ≠ 0 then (hd0, (numF (numF l).2.2).1)
  else if (numF (numF (numF l).2.2).2.2).1 ≠ 0 then (hd0, (numF (numF (numF l).2.2).2.2).1)
  else tailF len c (numF l).2.1 (numF (numF l).2.2).2.1 (numF (numF (numF l).2.2).2.2).2.1 (numF (numF (numF l).2.2).2.2).2.2
/-- The head that bytes begin with, or what is wrong first. -/
def parseF (l : List Int) : Hd × Int :=
  if 2 ≤ l.length ∧ l.getD 0 0 = 80 ∧ (l.getD 1 0 = 53 ∨ l.getD 1 0 = 54) then bodyF l.length (if l.getD 1 0 = 54 then 3 else 1) (l.drop 2) else (hd0, 1)
/-- A number's digits. -/
def decF (n : Nat) : List Int := if n < 10 then [48 + (n : Int)] else decF (n / 10) ++ [48 + ((n % 10 : Nat) : Int)]
decreasing_by omega
theorem decF_small {n : Nat} (h : n < 10) : decF n = [48 + (n : Int)] := by rw [decF, if_pos h]
theorem decF_more {n : Nat} (h : 10 ≤ n) : decF n = decF (n / 10) ++ [48 + ((n % 10 : Nat) : Int)] := by rw [decF, if_neg (by omega)]
theorem decF_digit (n : Nat) : ∀ x ∈ decF n, 48 ≤ x ∧ x ≤ 57 := by
  induction n using Nat.strongRecOn with
  | ind n ih =>
    intro x hx
    by_cases h : n < 10
    · rw [decF_small h, List.mem_singleton] at hx
      omega
    · rw [decF_more (by omega)] at hx
      rcases List.mem_append.1 hx with hx | hx
      · exact ih (n / 10) (by omega) x hx
      · rw [List.mem_singleton] at hx
        omega
theorem decF_ne (n : Nat) : decF n ≠ [] := by
  by_cases h : n < 10
  · rw [decF_small h]; simp
  · rw [decF_more (by omega)]; simp
theorem digitsF_dec (n : Nat) (hn : n ≤ 999999999) : ∀ r, digitsF 0 (decF n ++ r) = digitsF (n : Int) r := by
  induction n using Nat.strongRecOn with
  | ind n ih =>
    intro r
    by_cases h : n < 10
    · rw [decF_small h]
      show (if digitF (48 + (n : Int)) = true then _ else _) = _
      rw [if_pos (digitF_iff.2 (by omega)), show min (10 * 0 + (48 + (n : Int) - 48)) 1000000000 = (n : Int) by omega]
      rfl
    · rw [decF_more (by omega), List.append_assoc, ih (n / 10) (by omega) (by omega)]
      show (if digitF (48 + ((n % 10 : Nat) : Int)) = true then _ else _) = _
      rw [if_pos (digitF_iff.2 (by omega))]
      rw [show min (10 * ((n / 10 : Nat) : Int) + (48 + ((n % 10 : Nat) : Int) - 48)) 1000000000 = (n : Int) by omega]
      rfl
/-- A number ends where no digit follows. -/
theorem digitsF_end {r : List Int} (h : r = [] ∨ digitF (r.getD 0 0) = false) (n : Int) : digitsF n r = (n, r) := by
  match r, h with
  | [], _ => rfl
  | x :: t, h =>
    have hx : digitF x = false := by
      rcases h with h | h
      · cases h
      · exact h
    show (if digitF x = true then _ else _) = _
    rw [if_neg (by rw [hx]; decide)]
/-- Digits alone are all of the number. -/
theorem digitsF_all : ∀ (l : List Int), (∀ x ∈ l, 48 ≤ x ∧ x ≤ 57) → ∀ n, (digitsF n l).2 = []
  | [], _, _ => rfl
  | x :: t, h, n => by
    show (if digitF x = true then digitsF (min (10 * n + (x - 48)) 1000000000) t else (n, x :: t)).2 = []
    rw [if_pos (digitF_iff.2 (h x List.mem_cons_self))]
    exact digitsF_all t (fun y hy => h y (List.mem_cons_of_mem _ hy)) _
/-- Digits aren't blank. -/
theorem over_digit {x : Int} (hx : 48 ≤ x ∧ x ≤ 57) (s : Bool) (t : List Int) : overF false s (x :: t) = (x :: t, s) := by
  show (if x = 35 then _ else if blankF x = true then _ else (x :: t, s)) = _
  rw [if_neg (by omega), if_neg (by intro h; have := blankF_iff.1 h; omega)]
theorem over_blank {x : Int} (hx : blankF x = true) (s : Bool) (t : List Int) : overF false s (x :: t) = overF false true t := by
  show (if x = 35 then _ else if blankF x = true then overF false true t else (x :: t, s)) = _
  rw [if_neg (by have := blankF_iff.1 hx; omega), if_pos hx]
theorem over_nil (r s : Bool) : overF r s [] = ([], s) := by cases r <;> rfl
theorem over_hash (s : Bool) (t : List Int) : overF false s (35 :: t) = overF true true t := by
  show (if (35 : Int) = 35 then _ else _) = _
  rw [if_pos rfl]
/-- A number behind blanks and remarks, and not followed by a digit. -/
theorem numF_dec {l r : List Int} {n : Nat} (hn : n ≤ 999999999) (ho : overF false false l = (decF n ++ r, true)) (hr : r = [] ∨ digitF (r.getD 0 0) = false) : numF l = (0, (n : Int), r) := by
  obtain ⟨x, t, hx⟩ : ∃ x t, decF n = x :: t := by
    match h : decF n with
    | [] => exact absurd h (decF_ne n)
    | x :: t => exact ⟨x, t, rfl⟩
  have hd := decF_digit n x (by rw [hx]; exact List.mem_cons_self)
  unfold numF
  rw [ho, if_neg (by rw [hx]; simp), if_pos ⟨rfl, by rw [hx]; exact digitF_iff.2 hd⟩]
  show (0, digitsF 0 (decF n ++ r)) = _
  rw [digitsF_dec n hn, digitsF_end hr]
/-- Of a head's bytes that are cut off ahead of a number's end nothing is left behind it. -/
theorem numF_cut {x : Int} (hx : blankF x = true) (l : List Int) (hl : ∀ y ∈ l, 48 ≤ y ∧ y ≤ 57) : (numF (x :: l)).1 = 3 ∨ ((numF (x :: l)).1 = 0 ∧ (numF (x :: l)).2.2 = []) := by
  unfold numF
  rw [over_blank hx]
  match l, hl with
  | [], _ =>
    rw [over_nil, if_pos rfl]
    exact .inl rfl
  | y :: t, hl =>
    have hy := hl y List.mem_cons_self
    rw [over_digit hy, if_neg (by simp), if_pos ⟨rfl, digitF_iff.2 hy⟩]
    exact .inr ⟨rfl, digitsF_all _ hl 0⟩
theorem numF_nil : numF [] = (3, 0, []) := by
  unfold numF
  rw [over_nil, if_pos rfl]
end Go.Proofs.YtoppojilndnghaaDoor
