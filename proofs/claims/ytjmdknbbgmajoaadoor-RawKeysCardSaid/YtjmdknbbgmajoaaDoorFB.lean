/- Polynomials over rational numbers: the sine's series, and the short ones of package math. -/
import Derived.Test.YtjmdknbbgmajoaaDoorFA
namespace Go.Proofs.YtjmdknbbgmajoaaDoor

/-- Polynomials, the constant term first. -/
def evalP : List Rat → Rat → Rat
  | [], _ => 0
  | a :: p, x => a + x * evalP p x
def addP : List Rat → List Rat → List Rat
  | [], q => q
  | a :: p, [] => a :: p
  | a :: p, b :: q => (a + b) :: addP p q
def mulP (c : Rat) : List Rat → List Rat
  | [] => []
  | a :: p => (c * a) :: mulP c p
def stepP (h : Rat) : Rat → List Rat → List Rat
  | a, [] => [a]
  | a, b :: q => (a + h * b) :: stepP h b q
def shiftP (h : Rat) : List Rat → List Rat
  | [] => []
  | a :: p => stepP h a (shiftP h p)
def topP : List Rat → Rat → Rat
  | [], _ => 0
  | a :: p, x => a.abs + x * topP p x
theorem evalP_add (p q : List Rat) (x : Rat) : evalP (addP p q) x = evalP p x + evalP q x := by
  induction p generalizing q with
  | nil => simp only [addP, evalP]; grind
  | cons a p ih =>
    cases q with
    | nil => simp only [addP, evalP]; grind
    | cons b q => simp only [addP, evalP, ih]; grind
theorem evalP_mul (c : Rat) (p : List Rat) (x : Rat) : evalP (mulP c p) x = c * evalP p x := by
  induction p with
  | nil => simp only [mulP, evalP]; grind
  | cons a p ih => simp only [mulP, evalP, ih]; grind
theorem evalP_step (h a : Rat) (q : List Rat) (x : Rat) : evalP (stepP h a q) x = a + (h + x) * evalP q x := by
  induction q generalizing a with
  | nil => simp only [stepP, evalP]; grind
  | cons b q ih => simp only [stepP, evalP, ih]; grind
theorem evalP_shift (h : Rat) (p : List Rat) (x : Rat) : evalP (shiftP h p) x = evalP p (h + x) := by
  induction p with
  | nil => rfl
  | cons a p ih => simp only [shiftP, evalP, evalP_step, ih]
/-- Between a number and itself negated. -/
def InR (x B : Rat) : Prop := -B ≤ x ∧ x ≤ B
theorem abs_inR (a : Rat) : InR a a.abs := by
  unfold InR Rat.abs
  split <;> constructor <;> grind
theorem inR_add {x y a b : Rat} (h : InR x a) (g : InR y b) : InR (x + y) (a + b) := by unfold InR at *; constructor <;> grind
theorem inR_mul {x y a b : Rat} (h : InR x a) (g : InR y b) : InR (x * y) (a * b) := by
  unfold InR at *
  obtain ⟨h0, h1⟩ := h
  obtain ⟨g0, g1⟩ := g
  have p1 := Rat.mul_nonneg (show 0 ≤ a - x by grind) (show 0 ≤ b + y by grind)
  have p2 := Rat.mul_nonneg (show 0 ≤ a + x by grind) (show 0 ≤ b - y by grind)
  have p3 := Rat.mul_nonneg (show 0 ≤ a - x by grind) (show 0 ≤ b - y by grind)
  have p4 := Rat.mul_nonneg (show 0 ≤ a + x by grind) (show 0 ≤ b + y by grind)
  constructor <;> grind
theorem inR_mono {x a b : Rat} (h : InR x a) (g : a ≤ b) : InR x b := by unfold InR at *; constructor <;> grind
theorem evalP_in (p : List Rat) {x B : Rat} (h : InR x B) : InR (evalP p x) (topP p B) := by
  induction p with
  | nil => unfold InR; simp only [evalP, topP]; constructor <;> grind
  | cons a p ih => exact inR_add (abs_inR a) (inR_mul h ih)
/-- How much a polynomial turns. -/
def turnP : List Rat → Rat → Rat
  | [], _ => 0
  | _ :: p, x => x * turnP p x + topP p x
theorem evalP_turn (p : List Rat) {x y B d : Rat} (hx : InR x B) (hy : InR y B) (hd : InR (x - y) d) : InR (evalP p x - evalP p y) (d * turnP p B) := by
  induction p with
  | nil => unfold InR; simp only [evalP, turnP]; constructor <;> grind
  | cons a p ih =>
    have e : evalP (a :: p) x - evalP (a :: p) y = x * (evalP p x - evalP p y) + (x - y) * evalP p y := by simp only [evalP]; grind
    have q := inR_add (inR_mul hx ih) (inR_mul hd (evalP_in p hy))
    rw [e]
    refine inR_mono q ?_
    simp only [turnP]; grind
/-- The sine's series, divided by what it is of, in the square. -/
def coefT (s : Bool) : Nat → Rat → List Rat
  | 0, c => [if s then -c else c]
  | n + 1, c => (if s then -c else c) :: coefT (!s) n (c / ((60 - 2 * n : Nat) * (61 - 2 * n : Nat)))
def polyT : List Rat := coefT false 30 1
/-- The sine's. -/
def oddP : List Rat → List Rat
  | [] => []
  | a :: p => 0 :: a :: oddP p
theorem evalP_odd (p : List Rat) (x : Rat) : evalP (oddP p) x = x * evalP p (x * x) := by
  induction p with
  | nil => simp only [oddP, evalP]; grind
  | cons a p ih => simp only [oddP, evalP, ih]; grind
def polyS : List Rat := oddP polyT
def sinC : List Rat := [1, -750599937895081 / 2 ^ 52, 300239975157629 / 2 ^ 55, -7320136532877059 / 2 ^ 65, 6506786710177953 / 2 ^ 71, -7571123942793053 / 2 ^ 78, 6149556183080141 / 2 ^ 85]
def cosC : List Rat := [1, -1 / 2, 6004799503160651 / 2 ^ 57, -6405119470030737 / 2 ^ 62, 7320136533427445 / 2 ^ 68, -2602714736764387 / 2 ^ 73, 5047434750082821 / 2 ^ 81, -7030593573755547 / 2 ^ 89]
def evenP : List Rat → List Rat
  | [] => []
  | a :: p => a :: 0 :: evenP p
theorem evalP_even (p : List Rat) (x : Rat) : evalP (evenP p) x = evalP p (x * x) := by
  induction p with
  | nil => simp only [evenP, evalP]
  | cons a p ih => simp only [evenP, evalP, ih]; grind
def quarter : Rat := 13816870609431 / 2 ^ 44
/-- What is between, at each quarter. -/
def restP (m : Nat) : List Rat := addP (shiftP ((2 * m : Nat) * quarter) polyS) (mulP (if m % 4 < 2 then -1 else 1) (if m % 2 = 0 then oddP sinC else evenP cosC))
theorem polyT_top : topP polyT 158 ≤ 11446 := by decide +kernel
theorem polyT_turn : turnP polyT 158 ≤ 420 := by decide +kernel
theorem rest_small : ∀ m : Nat, m < 9 → topP (restP m) (79 / 100) ≤ 1 / 2 ^ 38 := by decide +kernel
theorem rest_none : topP (addP polyT (mulP (-1) sinC)) (63 / 100) ≤ 1 / 2 ^ 38 := by decide +kernel
/-- At each quarter the series is the short polynomial, with its sign. -/
theorem quarter_near {m : Nat} (hm : m < 9) {z : Rat} (hz : InR z (79 / 100)) :
    InR ((((2 * m : Nat) : Rat) * quarter + z) * evalP polyT ((((2 * m : Nat) : Rat) * quarter + z) * (((2 * m : Nat) : Rat) * quarter + z)) - (if m % 4 < 2 then 1 else -1) * (if m % 2 = 0 then z * evalP sinC (z * z) else evalP cosC (z * z))) (1 / 2 ^ 38) := by
  have h := inR_mono (evalP_in (restP m) hz) (rest_small m hm)
  unfold restP at h
  rw [evalP_add, evalP_shift, evalP_mul] at h
  unfold polyS at h
  rw [evalP_odd] at h
  have e : evalP (if m % 2 = 0 then oddP sinC else evenP cosC) z = if m % 2 = 0 then z * evalP sinC (z * z) else evalP cosC (z * z) := by
    split
    · exact evalP_odd _ _
    · exact evalP_even _ _
  rw [e] at h
  have e2 : (if m % 4 < 2 then (-1 : Rat) else 1) = -(if m % 4 < 2 then 1 else -1) := by split <;> grind
  rw [e2] at h
  generalize (if m % 2 = 0 then z * evalP sinC (z * z) else evalP cosC (z * z)) = P at *
  generalize (if m % 4 < 2 then (1 : Rat) else -1) = s at *
  unfold InR at *
  constructor <;> grind
theorem none_near {w : Rat} (hw : InR w (63 / 100)) : InR (evalP polyT w - evalP sinC w) (1 / 2 ^ 38) := by
  have h := inR_mono (evalP_in (addP polyT (mulP (-1) sinC)) hw) rest_none
  rw [evalP_add, evalP_mul] at h
  unfold InR at *
  constructor <;> grind
theorem turn_near {x y d : Rat} (hx : InR x 158) (hy : InR y 158) (hd : InR (x - y) d) : InR (evalP polyT x - evalP polyT y) (d * 420) := by
  have h := evalP_turn polyT hx hy hd
  refine inR_mono h ?_
  refine Rat.mul_le_mul_of_nonneg_left polyT_turn ?_
  unfold InR at hd; grind
end Go.Proofs.YtjmdknbbgmajoaaDoor
