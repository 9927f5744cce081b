/- Parts, joined. -/
import Derived.Test.YtjmjgokgjeankaaDoorJ10
import Derived.Test.YtjmjgokgjeankaaDoorJ08
import Derived.WalkLawsBesides
/- The sine's series in integers, and the polynomial that it stands for. -/
namespace Go.Proofs.YtjmjgokgjeankaaDoor
open Go.RowKit


theorem near_err {X d : Int} (hd : 0 < d) : -d ≤ 2 * (d * nearQ X d) - 2 * X ∧ 2 * (d * nearQ X d) - 2 * X ≤ d := by
  unfold nearQ
  rw [if_neg (by omega)]
  have e := Int.mul_ediv_add_emod (2 * X + d) (2 * d)
  have r0 := Int.emod_nonneg (2 * X + d) (show 2 * d ≠ 0 by omega)
  have r1 := Int.emod_lt_of_pos (2 * X + d) (show 0 < 2 * d by omega)
  rw [Int.mul_assoc] at e
  omega
theorem termS_eq {u : Int} (h0 : 0 ≤ u) (h1 : u ≤ 173627916808752) (n : Nat) (hn : n < 30) : termS u (n + 1) = nearQ (termS u n * u) (divS n) := by
  obtain ⟨a0, a1⟩ := termS_in h0 h1 n (by omega)
  obtain ⟨d0, d1⟩ := divS_in n (by omega)
  obtain ⟨t0, t1⟩ := topS_in n (by omega)
  obtain ⟨_, t3⟩ := topS_in (n + 1) (by omega)
  have p0 : 0 ≤ termS u n * u := Int.mul_nonneg a0 h0
  have p1 : termS u n * u ≤ topS n * 173627916808752 := Int.mul_le_mul a1 h1 h0 (by omega)
  have p2 : topS n * 173627916808752 < (topS n * 173627916808752 / divS n + 1) * divS n := Int.lt_mul_of_ediv_lt (by omega) (by omega)
  have q := near_in (X := termS u n * u) (d := divS n) (m := topS (n + 1)) (by omega) p0 (by
    show _ ≤ (topS n * 173627916808752 / divS n + 1) * divS n
    omega)
  show divF _ _ = _
  rw [divF_of (by omega), holdI_in (by omega) (by omega)]
/-- The terms without rounding, and their sum. -/
def stepT (n : Nat) : Rat := ((2 * n + 2 : Nat) : Rat) * ((2 * n + 3 : Nat) : Rat)
def realT (U : Rat) : Nat → Rat
  | 0 => 1
  | n + 1 => realT U n * (U * (stepT n)⁻¹)
def preT (U : Rat) : Nat → Rat
  | 0 => 0
  | n + 1 => preT U n + (if n % 2 = 1 then -realT U n else realT U n)
theorem coefT_pre (U : Rat) (k : Nat) : ∀ (n : Nat) (X c : Rat), n + k = 30 → X * c = realT U n → preT U n + X * evalP (coefT (n % 2 == 1) k c) U = preT U 31 := by
  induction k with
  | zero =>
    intro n X c hn hX
    obtain rfl : n = 30 := by omega
    show preT U 30 + X * (c + U * 0) = preT U 30 + realT U 30
    rw [← hX]; grind
  | succ k ih =>
    intro n X c hn hX
    have e1 : 60 - 2 * k = 2 * n + 2 := by omega
    have e2 : 61 - 2 * k = 2 * n + 3 := by omega
    have e3 : (!(n % 2 == 1)) = ((n + 1) % 2 == 1) := by
      by_cases g : n % 2 = 1
      · rw [show (n % 2 == 1) = true from beq_iff_eq.2 g, show ((n + 1) % 2 == 1) = false from beq_eq_false_iff_ne.2 (by omega)]; rfl
      · rw [show (n % 2 == 1) = false from beq_eq_false_iff_ne.2 g, show ((n + 1) % 2 == 1) = true from beq_iff_eq.2 (by omega)]; rfl
    have h := ih (n + 1) (X * U) (c / (((2 * n + 2 : Nat) : Rat) * ((2 * n + 3 : Nat) : Rat))) (by omega) (by
      show X * U * (c * (stepT n)⁻¹) = realT U n * (U * (stepT n)⁻¹)
      rw [← hX]; grind)
    rw [← h]
    simp only [coefT, evalP]
    rw [e1, e2, e3]
    show _ = preT U n + (if n % 2 = 1 then -realT U n else realT U n) + _
    rw [← hX]
    by_cases g : n % 2 = 1
    · rw [if_pos g, show (n % 2 == 1) = true from beq_iff_eq.2 g]; simp only [if_true]; grind
    · rw [if_neg g, show (n % 2 == 1) = false from beq_eq_false_iff_ne.2 g]; simp only [Bool.false_eq_true, if_false]; grind
theorem polyT_pre (U : Rat) : evalP polyT U = preT U 31 := by
  have h := coefT_pre U 30 0 1 1 rfl (by show (1 : Rat) * 1 = 1; grind)
  rw [← h]
  show evalP (coefT false 30 1) U = 0 + 1 * evalP (coefT false 30 1) U
  grind
def errT : Nat → Rat
  | 0 => 0
  | n + 1 => errT n * (158 * (stepT n)⁻¹) + 1 / 2199023255552
def allT : Nat → Rat
  | 0 => 0
  | n + 1 => allT n + errT (n + 1)
theorem allT_small : allT 30 ≤ 1 / 2 ^ 31 := by decide +kernel
theorem stepT_pos (n : Nat) : 0 < stepT n := Rat.mul_pos (Rat.natCast_pos.2 (by omega)) (Rat.natCast_pos.2 (by omega))
theorem stepT_inv (n : Nat) : 0 ≤ (stepT n)⁻¹ := Rat.le_of_lt (Rat.inv_pos.2 (stepT_pos n))
theorem divS_rat (n : Nat) : ((divS n : Int) : Rat) = stepT n * 1099511627776 := by
  unfold divS stepT
  rw [show (2 * ((n : Int) + 1) * (2 * ((n : Int) + 1) + 1) * 1099511627776 : Int) = (((2 * n + 2) * (2 * n + 3) * 1099511627776 : Nat) : Int) by
    rw [Int.natCast_mul, Int.natCast_mul, Int.natCast_add, Int.natCast_mul, Int.natCast_add, Int.natCast_mul]
    rw [show (2 * ((n : Int) + 1)) = ((2 : Nat) : Int) * n + ((2 : Nat) : Int) by omega]
    congr 2]
  rw [Rat.intCast_natCast, Rat.natCast_mul, Rat.natCast_mul]
  rfl
theorem stepTerm {t u t' D : Rat} (hD : 0 < D) (h0 : -(D * 1099511627776) ≤ 2 * (D * 1099511627776 * t') - 2 * (t * u)) (h1 : 2 * (D * 1099511627776 * t') - 2 * (t * u) ≤ D * 1099511627776) :
    InR (t' / 1099511627776 - t / 1099511627776 * (u / 1099511627776 * D⁻¹)) (1 / 2199023255552) := by
  have hi : D * D⁻¹ = 1 := Rat.mul_inv_cancel D (by grind)
  have i0 : 0 ≤ D⁻¹ := Rat.le_of_lt (Rat.inv_pos.2 hD)
  generalize D⁻¹ = I at *
  have a := Rat.mul_le_mul_of_nonneg_right h0 i0
  have b := Rat.mul_le_mul_of_nonneg_right h1 i0
  have e1 : -(D * 1099511627776) * I = -1099511627776 := by grind
  have e2 : D * 1099511627776 * I = 1099511627776 := by grind
  have e3 : (2 * (D * 1099511627776 * t') - 2 * (t * u)) * I = 2 * 1099511627776 * t' - 2 * (t * u * I) := by grind
  rw [e1, e3] at a
  rw [e2, e3] at b
  unfold InR
  constructor <;> grind
theorem termS_real {u : Int} (h0 : 0 ≤ u) (h1 : u ≤ 173627916808752) (n : Nat) (hn : n < 31) : InR ((termS u n : Rat) / 1099511627776 - realT ((u : Rat) / 1099511627776) n) (errT n) := by
  have u0 : (0 : Rat) ≤ (u : Rat) / 1099511627776 := by
    have : (0 : Rat) ≤ (u : Rat) := Rat.intCast_nonneg.2 h0
    grind
  have u1 : (u : Rat) / 1099511627776 ≤ 158 := by
    have : ((u : Int) : Rat) ≤ ((173627916808752 : Int) : Rat) := Rat.intCast_le_intCast.2 h1
    rw [show ((173627916808752 : Int) : Rat) = 173627916808752 from rfl] at this
    grind
  induction n with
  | zero => show InR (((1099511627776 : Int) : Rat) / 1099511627776 - 1) 0; unfold InR; decide +kernel
  | succ n ih =>
    have ih := ih (by omega)
    obtain ⟨d0, d1⟩ := divS_in n (by omega)
    have ne := near_err (X := termS u n * u) (d := divS n) (by omega)
    rw [← termS_eq h0 h1 n (by omega)] at ne
    obtain ⟨n0, n1⟩ := ne
    have n0' : ((-(divS n) : Int) : Rat) ≤ ((2 * (divS n * termS u (n + 1)) - 2 * (termS u n * u) : Int) : Rat) := Rat.intCast_le_intCast.2 n0
    have n1' : ((2 * (divS n * termS u (n + 1)) - 2 * (termS u n * u) : Int) : Rat) ≤ ((divS n : Int) : Rat) := Rat.intCast_le_intCast.2 n1
    simp only [Rat.intCast_sub, Rat.intCast_mul, Rat.intCast_neg, divS_rat] at n0' n1'
    rw [show ((2 : Int) : Rat) = 2 from rfl] at n0' n1'
    have st := stepTerm (stepT_pos n) n0' n1'
    show InR (_ - realT _ n * (_ * (stepT n)⁻¹)) (errT n * (158 * (stepT n)⁻¹) + 1 / 2199023255552)
    have i0 := stepT_inv n
    generalize (stepT n)⁻¹ = I at *
    generalize (u : Rat) / 1099511627776 = U at *
    have hU : InR (U * I) (158 * I) := by
      have a := Rat.mul_le_mul_of_nonneg_right u1 i0
      have b := Rat.mul_nonneg u0 i0
      unfold InR; constructor <;> grind
    have q := inR_add (inR_mul ih hU) st
    generalize (termS u (n + 1) : Rat) / 1099511627776 = a at *
    generalize (termS u n : Rat) / 1099511627776 = b at *
    unfold InR at *
    constructor <;> grind
theorem sumS_real {u : Int} (h0 : 0 ≤ u) (h1 : u ≤ 173627916808752) (n : Nat) (hn : n < 31) : InR ((sumS u n : Rat) / 1099511627776 - preT ((u : Rat) / 1099511627776) (n + 1)) (allT n) := by
  induction n with
  | zero =>
    show InR (((1099511627776 : Int) : Rat) / 1099511627776 - (0 + 1)) 0; unfold InR; decide +kernel
  | succ n ih =>
    have ih := ih (by omega)
    have t := termS_real h0 h1 (n + 1) hn
    have e : preT ((u : Rat) / 1099511627776) (n + 1 + 1) = preT ((u : Rat) / 1099511627776) (n + 1) + (if (n + 1) % 2 = 1 then -realT ((u : Rat) / 1099511627776) (n + 1) else realT ((u : Rat) / 1099511627776) (n + 1)) := rfl
    rw [e]
    show InR _ (allT n + errT (n + 1))
    generalize preT ((u : Rat) / 1099511627776) (n + 1) = p at *
    generalize realT ((u : Rat) / 1099511627776) (n + 1) = r at *
    unfold sumS
    by_cases g : n % 2 = 0
    · rw [if_pos g, if_pos (by omega), Rat.intCast_sub]
      unfold InR at *; constructor <;> grind
    · rw [if_neg g, if_neg (by omega), Rat.intCast_add]
      unfold InR at *; constructor <;> grind
/-- THE SERIES IN INTEGERS IS THE POLYNOMIAL, NEARLY. -/
theorem sumS_poly {u : Int} (h0 : 0 ≤ u) (h1 : u ≤ 173627916808752) : InR ((sumS u 30 : Rat) / 1099511627776 - evalP polyT ((u : Rat) / 1099511627776)) (1 / 2 ^ 31) := by
  rw [polyT_pre]
  exact inR_mono (sumS_real h0 h1 30 (by omega)) allT_small
end Go.Proofs.YtjmjgokgjeankaaDoor

/- What package math's sine, and the laws' own sinc, answer, nearly. -/
namespace Go.Proofs.YtjmjgokgjeankaaDoor
open Go.RowKit Ieee

theorem cut_by {d A B : Rat} (h : InR (d * A) (B * A)) (hA : 0 < A) : InR d B := by
  unfold InR at *
  constructor
  · by_cases g : -B ≤ d
    · exact g
    · have := Rat.mul_pos (show 0 < -B - d by grind) hA
      grind
  · by_cases g : d ≤ B
    · exact g
    · have := Rat.mul_pos (show 0 < d - B by grind) hA
      grind
end Go.Proofs.YtjmjgokgjeankaaDoor

/- The series in integers and package math's sine: how near they are. -/
namespace Go.Proofs.YtjmjgokgjeankaaDoor
open Go.RowKit Ieee


theorem near_rat {X d : Int} {t : Rat} (hd : 0 < d) (ht : t * (d : Rat) = (X : Rat)) : InR ((nearQ X d : Rat) - t) (1 / 2) := by
  obtain ⟨n0, n1⟩ := near_err (X := X) hd
  have a : ((-d : Int) : Rat) ≤ ((2 * (d * nearQ X d) - 2 * X : Int) : Rat) := Rat.intCast_le_intCast.2 n0
  have b : ((2 * (d * nearQ X d) - 2 * X : Int) : Rat) ≤ ((d : Int) : Rat) := Rat.intCast_le_intCast.2 n1
  simp only [Rat.intCast_sub, Rat.intCast_mul, Rat.intCast_neg] at a b
  rw [show ((2 : Int) : Rat) = 2 from rfl, ← ht] at a b
  have hp : (0 : Rat) < (d : Rat) := Rat.intCast_pos.2 hd
  refine cut_by (A := (d : Rat)) ?_ hp
  generalize (nearQ X d : Rat) = n at *
  generalize (d : Rat) = D at *
  unfold InR; constructor <;> grind
theorem uF_real {P q : Int} {x : Rat} (hq : 0 < q) (h0 : 0 ≤ P) (h1 : P ≤ 4 * q) (hx : x * (q : Rat) = (P : Rat)) (x0 : 0 ≤ x) (x1 : x ≤ 4) : InR ((uF P q : Rat) - 10851744800547 * (x * x)) (5 / 2) := by
  obtain ⟨a0, a1, b0, b1⟩ := uF_in hq h0 h1
  have e1 : divF (10851744800547 * P) q = nearQ (10851744800547 * P) q := by
    have a := near_in (X := 10851744800547 * P) (d := q) (m := 43406979202188) hq (by omega) (by omega)
    rw [divF_of (by omega), holdI_in (by omega) (by omega)]
  have v1 := near_rat (X := 10851744800547 * P) (d := q) (t := 10851744800547 * x) hq (by rw [Rat.intCast_mul, ← hx]; rw [show ((10851744800547 : Int) : Rat) = 10851744800547 from rfl]; grind)
  rw [← e1] at v1
  have e2 : uF P q = nearQ (divF (10851744800547 * P) q * P) q := by
    have p0 : 0 ≤ divF (10851744800547 * P) q * P := Int.mul_nonneg a0 h0
    have p1 : divF (10851744800547 * P) q * P ≤ 43406979202188 * (4 * q) := Int.mul_le_mul a1 h1 h0 (by omega)
    have b := near_in (X := divF (10851744800547 * P) q * P) (d := q) (m := 173627916808752) hq p0 (by omega)
    show divF _ _ = _
    rw [divF_of (by omega), holdI_in (by omega) (by omega)]
  rw [e2]
  have v2 := near_rat (X := divF (10851744800547 * P) q * P) (d := q) (t := (divF (10851744800547 * P) q : Rat) * x) hq (by rw [Rat.intCast_mul, ← hx]; grind)
  generalize (divF (10851744800547 * P) q : Rat) = v at *
  generalize (nearQ _ q : Rat) = u at *
  have := inR_add v2 (inR_mul v1 (show InR x 4 by unfold InR; constructor <;> grind))
  rw [show u - v * x + (v - 10851744800547 * x) * x = u - 10851744800547 * (x * x) by grind] at this
  exact inR_mono this (by decide +kernel)
end Go.Proofs.YtjmjgokgjeankaaDoor

/- The program's and the document's sinc: what each call answers. -/
namespace Go.Proofs.YtjmjgokgjeankaaDoor
open Go.RowKit


theorem mulshift_to (a b n v : Int) (hv : mulShiftF a b n = v) (h0 : -9223372036854775808 ≤ a) (h1 : a ≤ 9223372036854775807) (k0 : -9223372036854775808 ≤ b) (k1 : b ≤ 9223372036854775807) (w : World) :
    Calls Tryd.prog 63 #[.int .i64 a, .int .i64 b, .int .i64 n] w fun e w' => e = .returned (.int .i64 v) ∧ Below w.heap.size w w' := by
  subst hv
  exact mulshift_any a b n h0 h1 k0 k1 w
theorem mulShiftF_in (a b n : Int) : -9223372036854775808 ≤ mulShiftF a b n ∧ mulShiftF a b n ≤ 9223372036854775807 := by
  unfold mulShiftF
  split
  · omega
  · split <;> exact ⟨holdI0 _, holdI1 _⟩
set_option maxRecDepth 100000 in
set_option maxHeartbeats 1000000 in
theorem sseries_at (p q P v u : Int) (hP : absI p = P) (hv : divF (10851744800547 * P) q = v) (hu : divF (v * P) q = u) (q0 : 0 < q) (q1 : q ≤ 3145728) (P0 : 0 ≤ P) (P1 : P ≤ 4 * q) (v0 : 0 ≤ v) (v1 : v ≤ 43406979202188) (u0 : 0 ≤ u) (u1 : u ≤ 173627916808752) (w : World) :
    Calls Tryd.prog 64 #[.int .i64 p, .int .i64 q] w fun e w' => e = .returned (.int .i64 (sumS u 30)) ∧ Below w.heap.size w w' := by
  have C1 := muldiv_to 10851744800547 P q v hv (by omega) (by omega) (by omega) (by omega) (by omega) (by omega)
  have C2 := muldiv_to v P q u hu (by omega) (by omega) (by omega) (by omega) (by omega) (by omega)
  have hp : (decide (p < 0) = true ∧ -p = P) ∨ (decide (p < 0) = false ∧ p = P) := by
    unfold absI at hP
    by_cases h : p < 0
    · rw [if_pos h] at hP; exact Or.inl ⟨decide_eq_true h, hP⟩
    · rw [if_neg h] at hP; exact Or.inr ⟨decide_eq_false h, hP⟩
  clear hv hu hP
  rcases hp with ⟨g, rfl⟩ | ⟨g, rfl⟩
  all_goals
    go_enter Tryd.func64, Tryd.ntmps64
    go_wp2_with (first
      | (go_at_call 37; (with_reducible refine (C1 _).mono ?_); rintro e w1 ⟨rfl, b1⟩)
      | (go_at_call 37; (with_reducible refine (C2 _).mono ?_); rintro e w2 ⟨rfl, b2⟩))
    go_loopw [6, 7, 8] (fun s t i wr => ∃ k : Nat, k ≤ 30 ∧ s = .int .i64 (sumS u k) ∧ t = .int .i64 (termS u k) ∧ i = .int .i64 ((k : Int) + 1) ∧ Below w.heap.size w wr) (fun _ _ i _ => 31 - (intOf i).toNat)
    case atStart => exact ⟨0, by omega, rfl, rfl, rfl, bt b1 b2⟩
    case round =>
      obtain ⟨k, hk, rfl, rfl, rfl, hb⟩ := hrel
      have HB := hide hb
      clear hb b1 b2
      obtain ⟨t0, t1⟩ := termS_all u0 u1 k (by omega)
      obtain ⟨s0, s1⟩ := sumS_in u0 u1 k (by omega)
      by_cases hlt : k < 30
      · obtain ⟨x0, x1⟩ := termS_all u0 u1 (k + 1) (by omega)
        obtain ⟨m0, m1⟩ := mulS_in k hlt
        have CM := muldiv_to (termS u k) u (2 * ((k : Int) + 1) * (2 * ((k : Int) + 1) + 1) * 1099511627776) (termS u (k + 1)) rfl (by omega) (by omega) (by omega) (by omega) (by omega) (by omega)
        have hs : sumS u (k + 1) = if k % 2 = 0 then sumS u k - termS u (k + 1) else sumS u k + termS u (k + 1) := rfl
        have HS := hide hs
        clear hs
        by_cases hp : k % 2 = 0
        · have tst : (((k : Int) + 1) % 2 == 1) = true := beq_iff_eq.2 (by omega)
          have HP := hide hp
          clear hp
          go_wp2_with (go_at_call 37; (with_reducible refine (CM _).mono ?_); rintro e w3 ⟨rfl, b3⟩)
          go_roundw
          case rel => exact ⟨k + 1, by omega, by rw [HS.out, if_pos HP.out], rfl, by go_num, bt HB.out b3⟩
          case measure => simp [intOf]; omega
        · have tst : (((k : Int) + 1) % 2 == 1) = false := beq_eq_false_iff_ne.2 (by omega)
          have HP := hide hp
          clear hp
          go_wp2_with (go_at_call 37; (with_reducible refine (CM _).mono ?_); rintro e w3 ⟨rfl, b3⟩)
          go_roundw
          case rel => exact ⟨k + 1, by omega, by rw [HS.out, if_neg HP.out], rfl, by go_num, bt HB.out b3⟩
          case measure => simp [intOf]; omega
      · obtain rfl : k = 30 := by omega
        go_wp2
        go_ret
        exact ⟨rfl, HB.out⟩
theorem sseries_any (p q : Int) (q0 : 0 < q) (q1 : q ≤ 3145728) (h0 : -(4 * q) ≤ p) (h1 : p ≤ 4 * q) (w : World) :
    Calls Tryd.prog 64 #[.int .i64 p, .int .i64 q] w fun e w' => e = .returned (.int .i64 (seriesF p q)) ∧ Below w.heap.size w w' := by
  obtain ⟨a0, a1⟩ := abs_small h0 h1
  obtain ⟨v0, v1, u0, u1⟩ := uF_in q0 a0 a1
  exact sseries_at p q _ _ _ rfl rfl rfl q0 q1 a0 a1 v0 v1 u0 u1 w
theorem may_any (p q : Int) (w : World) (_h0 : -9223372036854775808 ≤ p) (_h1 : p ≤ 9223372036854775807) :
    Calls Tryd.prog 62 #[.int .i64 p, .int .i64 q] w fun e w' => e = .returned (.bool (mayF p q)) ∧ Below w.heap.size w w' := by
  unfold mayF
  by_cases g1 : 1 ≤ q
  · by_cases g2 : q ≤ 1048576
    · by_cases g3 : -4 * q ≤ p
      · have e1 : decide (1 ≤ q) = true := decide_eq_true g1
        have e2 : decide (q ≤ 1048576) = true := decide_eq_true g2
        have e3 : decide (-4 * q ≤ p) = true := decide_eq_true g3
        rw [e1, e2, e3]
        go_enter Tryd.func62, Tryd.ntmps62
        go_wp2
        go_ret
        exact ⟨rfl, Below.refl _ _⟩
      · have e1 : decide (1 ≤ q) = true := decide_eq_true g1
        have e2 : decide (q ≤ 1048576) = true := decide_eq_true g2
        have e3 : decide (-4 * q ≤ p) = false := decide_eq_false g3
        rw [e1, e2, e3]
        go_enter Tryd.func62, Tryd.ntmps62
        go_wp2
        go_ret
        exact ⟨rfl, Below.refl _ _⟩
    · have e1 : decide (1 ≤ q) = true := decide_eq_true g1
      have e2 : decide (q ≤ 1048576) = false := decide_eq_false g2
      rw [e1, e2]
      go_enter Tryd.func62, Tryd.ntmps62
      go_wp2
      go_ret
      exact ⟨rfl, Below.refl _ _⟩
  · have e1 : decide (1 ≤ q) = false := decide_eq_false g1
    rw [e1]
    go_enter Tryd.func62, Tryd.ntmps62
    go_wp2
    go_ret
    exact ⟨rfl, Below.refl _ _⟩
set_option maxHeartbeats 1000000 in
theorem lanczos_any (p q : Int) (h0 : -9223372036854775808 ≤ p) (h1 : p ≤ 9223372036854775807) (w : World) :
    Calls Tryd.prog 44 #[.int .i64 p, .int .i64 q] w fun e w' => e = .returned (.int .i64 (lanczosF p q)) ∧ Below w.heap.size w w' := by
  have CM := fun w => may_any p q w h0 h1
  rcases mayF_at p q with ⟨g, a1, a2, a3, a4⟩ | ⟨g, _⟩
  · rw [g] at CM
    by_cases g1 : p ≤ -3 * q
    · rw [show lanczosF p q = 0 from if_neg (by omega)]
      clear g
      go_enter Tryd.func44, Tryd.ntmps44
      go_wp2_with (go_at_call 62; (with_reducible refine (CM _).mono ?_); rintro e w1 ⟨rfl, b1⟩)
      go_ret
      exact ⟨rfl, b1⟩
    by_cases g2 : 3 * q ≤ p
    · rw [show lanczosF p q = 0 from if_neg (by omega)]
      clear g
      go_enter Tryd.func44, Tryd.ntmps44
      go_wp2_with (go_at_call 62; (with_reducible refine (CM _).mono ?_); rintro e w1 ⟨rfl, b1⟩)
      go_ret
      exact ⟨rfl, b1⟩
    rw [show lanczosF p q = shiftF (mulShiftF (seriesF p q) (seriesF p (3 * q)) 40) 10 from if_pos ⟨g, by omega, by omega⟩]
    clear g
    have CS := sseries_any p q (by omega) (by omega) (by omega) (by omega)
    have CT := sseries_any p (3 * q) (by omega) (by omega) (by omega) (by omega)
    obtain ⟨s0, s1⟩ := seriesF_in (p := p) (q := q) (by omega) (by omega) (by omega)
    obtain ⟨t0, t1⟩ := seriesF_in (p := p) (q := 3 * q) (by omega) (by omega) (by omega)
    have CX := mulshift_to (seriesF p q) (seriesF p (3 * q)) 40 _ rfl (by omega) (by omega) (by omega) (by omega)
    obtain ⟨x0, x1⟩ := mulShiftF_in (seriesF p q) (seriesF p (3 * q)) 40
    have CH := fixshift_any (mulShiftF (seriesF p q) (seriesF p (3 * q)) 40) 10 x0 x1 (by omega) (by omega)
    generalize shiftF (mulShiftF (seriesF p q) (seriesF p (3 * q)) 40) 10 = z at *
    generalize mulShiftF (seriesF p q) (seriesF p (3 * q)) 40 = y at *
    generalize seriesF p (3 * q) = t at *
    generalize seriesF p q = s at *
    go_enter Tryd.func44, Tryd.ntmps44
    go_wp2_with (first
      | (go_at_call 62; (with_reducible refine (CM _).mono ?_); rintro e w1 ⟨rfl, b1⟩)
      | (go_at_call 64; (with_reducible refine (CS _).mono ?_); rintro e w2 ⟨rfl, b2⟩)
      | (go_at_call 64; (with_reducible refine (CT _).mono ?_); rintro e w3 ⟨rfl, b3⟩)
      | (go_at_call 63; (with_reducible refine (CX _).mono ?_); rintro e w4 ⟨rfl, b4⟩)
      | (go_at_call 58; (with_reducible refine (CH _).mono ?_); rintro e w5 ⟨rfl, b5⟩))
    go_ret
    exact ⟨rfl, bt (bt (bt (bt b1 b2) b3) b4) b5⟩
  · rw [show lanczosF p q = 0 from if_neg (by rw [g]; simp)]
    rw [g] at CM
    clear g
    go_enter Tryd.func44, Tryd.ntmps44
    go_wp2_with (go_at_call 62; (with_reducible refine (CM _).mono ?_); rintro e w1 ⟨rfl, b1⟩)
    go_ret
    exact ⟨rfl, b1⟩
end Go.Proofs.YtjmjgokgjeankaaDoor

/- The laws on how near the sinc is: their words. -/
namespace Go.Proofs.YtjmjgokgjeankaaDoor
open Go.RowKit Ieee

/-- A weight, out of two sides. -/
theorem weight_near {S1 S2 : Int} {T1 T2 : Rat} (h1 : InR ((S1 : Rat) / 1099511627776 - T1) (1 / 2 ^ 26)) (h2 : InR ((S2 : Rat) / 1099511627776 - T2) (1 / 2 ^ 26)) (b1 : InR T1 6) (b2 : InR T2 6) :
    InR ((shiftF (mulShiftF S1 S2 40) 10 : Rat) / 1073741824 - T1 * T2) (1 / 2 ^ 21) := by
  have pr := mul_near h1 h2 b1 b2
  have pb := near_in_add pr (inR_mul b1 b2)
  have nr := near_rat (X := S1 * S2) (d := 1099511627776) (t := (S1 : Rat) / 1099511627776 * ((S2 : Rat) / 1099511627776) * 1099511627776) (by omega) (by rw [Rat.intCast_mul, show ((1099511627776 : Int) : Rat) = 1099511627776 from rfl]; grind)
  generalize hP : (S1 : Rat) / 1099511627776 * ((S2 : Rat) / 1099511627776) = P at *
  have nb := near_in_add nr (inR_mul pb (show InR (1099511627776 : Rat) 1099511627776 by unfold InR; decide +kernel))
  have nb2 : InR (nearQ (S1 * S2) 1099511627776 : Rat) 50000000000000 := inR_mono nb (by decide +kernel)
  obtain ⟨n0, n1⟩ := nb2
  have n0' : -50000000000000 ≤ nearQ (S1 * S2) 1099511627776 := by
    rw [show (-50000000000000 : Rat) = ((-50000000000000 : Int) : Rat) from rfl] at n0
    exact Rat.intCast_le_intCast.1 n0
  have n1' : nearQ (S1 * S2) 1099511627776 ≤ 50000000000000 := by
    rw [show (50000000000000 : Rat) = ((50000000000000 : Int) : Rat) from rfl] at n1
    exact Rat.intCast_le_intCast.1 n1
  have hM : mulShiftF S1 S2 40 = nearQ (S1 * S2) 1099511627776 := by
    unfold mulShiftF
    rw [if_neg (by omega), if_neg (by omega)]
    exact holdI_in (by show _ ≤ nearQ (S1 * S2) 1099511627776; omega) (by show nearQ (S1 * S2) 1099511627776 ≤ _; omega)
  rw [hM]
  generalize nearQ (S1 * S2) 1099511627776 = M at *
  have hW : shiftF M 10 = (M / 2 ^ 9 + 1) / 2 := by
    unfold shiftF
    rw [if_neg (by omega), if_neg (by omega)]; rfl
  have hW2 : -512 ≤ 1024 * shiftF M 10 - M ∧ 1024 * shiftF M 10 - M ≤ 512 := by
    rw [hW, show (2 : Int) ^ 9 = 512 from rfl]; omega
  generalize shiftF M 10 = W at *
  obtain ⟨w0, w1⟩ := hW2
  have w0' : ((-512 : Int) : Rat) ≤ ((1024 * W - M : Int) : Rat) := Rat.intCast_le_intCast.2 w0
  have w1' : ((1024 * W - M : Int) : Rat) ≤ ((512 : Int) : Rat) := Rat.intCast_le_intCast.2 w1
  simp only [Rat.intCast_sub, Rat.intCast_mul] at w0' w1'
  rw [show ((-512 : Int) : Rat) = -512 from rfl, show ((1024 : Int) : Rat) = 1024 from rfl] at w0'
  rw [show ((512 : Int) : Rat) = 512 from rfl, show ((1024 : Int) : Rat) = 1024 from rfl] at w1'
  clear hM hW n0' n1' nb n0 n1 pb h1 h2 b1 b2 hP w0 w1
  generalize (W : Rat) = w at *
  generalize (M : Rat) = m at *
  have q1 : InR (w / 1073741824 - m / 1099511627776) (1 / 2 ^ 31) := by unfold InR; constructor <;> grind
  have q2 : InR (m / 1099511627776 - P) (1 / 2 ^ 41) := by
    unfold InR at nr ⊢; constructor <;> grind
  have := inR_add (inR_add q1 q2) pr
  rw [show w / 1073741824 - m / 1099511627776 + (m / 1099511627776 - P) + (P - T1 * T2) = w / 1073741824 - T1 * T2 by grind] at this
  exact inR_mono this (by decide +kernel)
end Go.Proofs.YtjmjgokgjeankaaDoor
