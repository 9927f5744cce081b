/- The series in integers and package math's sine: how near they are. -/
import Derived.Test.YthakcpjlnopcfaaDoorS04F
namespace Go.Proofs.YthakcpjlnopcfaaDoor
open Go.RowKit Ieee


theorem near_rat {X d : Int} {t : Rat} (hd : 0 < d) (ht : t * (d : Rat) = (X : Rat)) : InR ((nearQ X d : Rat) - t) (1 / 2) := by
  obtain ⟨n0, n1⟩ := near_err (X := X) hd
  have a : ((-d : Int) : Rat) ≤ ((2 * (d * nearQ X d) - 2 * X : Int) : Rat) := Rat.intCast_le_intCast.2 n0
  have b : ((2 * (d * nearQ X d) - 2 * X : Int) : Rat) ≤ ((d : Int) : Rat) := Rat.intCast_le_intCast.2 n1
  simp only [Rat.intCast_sub, Rat.intCast_mul, Rat.intCast_neg] at a b
  rw [show ((2 : Int) : Rat) = 2 from rfl, ← ht] at a b
  have hp : (0 : Rat) < (d : Rat) := Rat.intCast_pos.2 hd
  refine cut_by (A := (d : Rat)) ?_ hp
  generalize (nearQ X d : Rat) = n at *
  generalize (d : Rat) = D at *
  unfold InR; constructor <;> grind
theorem uF_real {P q : Int} {x : Rat} (hq : 0 < q) (h0 : 0 ≤ P) (h1 : P ≤ 4 * q) (hx : x * (q : Rat) = (P : Rat)) (x0 : 0 ≤ x) (x1 : x ≤ 4) : InR ((uF P q : Rat) - 10851744800547 * (x * x)) (5 / 2) := by
  obtain ⟨a0, a1, b0, b1⟩ := uF_in hq h0 h1
  have e1 : divF (10851744800547 * P) q = nearQ (10851744800547 * P) q := by
    have a := near_in (X := 10851744800547 * P) (d := q) (m := 43406979202188) hq (by omega) (by omega)
    rw [divF_of (by omega), holdI_in (by omega) (by omega)]
  have v1 := near_rat (X := 10851744800547 * P) (d := q) (t := 10851744800547 * x) hq (by rw [Rat.intCast_mul, ← hx]; rw [show ((10851744800547 : Int) : Rat) = 10851744800547 from rfl]; grind)
  rw [← e1] at v1
  have e2 : uF P q = nearQ (divF (10851744800547 * P) q * P) q := by
    have p0 : 0 ≤ divF (10851744800547 * P) q * P := Int.mul_nonneg a0 h0
    have p1 : divF (10851744800547 * P) q * P ≤ 43406979202188 * (4 * q) := Int.mul_le_mul a1 h1 h0 (by omega)
    have b := near_in (X := divF (10851744800547 * P) q * P) (d := q) (m := 173627916808752) hq p0 (by omega)
    show divF _ _ = _
    rw [divF_of (by omega), holdI_in (by omega) (by omega)]
  rw [e2]
  have v2 := near_rat (X := divF (10851744800547 * P) q * P) (d := q) (t := (divF (10851744800547 * P) q : Rat) * x) hq (by rw [Rat.intCast_mul, ← hx]; grind)
  generalize (divF (10851744800547 * P) q : Rat) = v at *
  generalize (nearQ _ q : Rat) = u at *
  have := inR_add v2 (inR_mul v1 (show InR x 4 by unfold InR; constructor <;> grind))
  rw [show u - v * x + (v - 10851744800547 * x) * x = u - 10851744800547 * (x * x) by grind] at this
  exact inR_mono this (by decide +kernel)
theorem series_near {p q : Int} {x X Y : Rat} (hq : 0 < q) (h0 : -(4 * q) ≤ p) (h1 : p ≤ 4 * q) (hx : x * (q : Rat) = (p : Rat)) (hX : InR (X - x) (1 / 2 ^ 48)) (hY : InR (Y - piD * X) (1 / 2 ^ 47)) :
    InR ((seriesF p q : Rat) / 1099511627776 - evalP polyT (Y * Y)) (1 / 2 ^ 26) := by
  obtain ⟨a0, a1⟩ := abs_small h0 h1
  obtain ⟨_, _, u0, u1⟩ := uF_in hq a0 a1
  have hqp : (0 : Rat) < (q : Rat) := Rat.intCast_pos.2 hq
  have hx4 : InR x 4 := by
    refine cut_by (A := (q : Rat)) ?_ hqp
    rw [hx]
    have c0 : ((-(4 * q) : Int) : Rat) ≤ (p : Rat) := Rat.intCast_le_intCast.2 h0
    have c1 : (p : Rat) ≤ ((4 * q : Int) : Rat) := Rat.intCast_le_intCast.2 h1
    rw [Rat.intCast_neg, Rat.intCast_mul, show ((4 : Int) : Rat) = 4 from rfl] at c0
    rw [Rat.intCast_mul, show ((4 : Int) : Rat) = 4 from rfl] at c1
    exact ⟨c0, c1⟩
  have hu : InR ((uF (absI p) q : Rat) - 10851744800547 * (x * x)) (5 / 2) := by
    by_cases hs : p < 0
    · have e : absI p = -p := if_pos hs
      have pn : (p : Rat) < 0 := by
        have : ((p : Int) : Rat) < ((0 : Int) : Rat) := Rat.intCast_lt_intCast.2 hs
        exact this
      have xn : x ≤ 0 := by
        by_cases g : x ≤ 0
        · exact g
        · have := Rat.mul_pos (show 0 < x by grind) hqp
          grind
      have := uF_real (P := absI p) (q := q) (x := -x) hq a0 a1 (by rw [e, Rat.intCast_neg, ← hx]; grind) (by grind) (by unfold InR at hx4; grind)
      rw [show -x * -x = x * x by grind] at this
      exact this
    · have e : absI p = p := if_neg hs
      have pn : 0 ≤ (p : Rat) := Rat.intCast_nonneg.2 (by omega)
      have xn : 0 ≤ x := by
        by_cases g : 0 ≤ x
        · exact g
        · have := Rat.mul_pos (show 0 < -x by grind) hqp
          grind
      exact uF_real (P := absI p) (q := q) (x := x) hq a0 a1 (by rw [e, ← hx]) xn (by unfold InR at hx4; grind)
  have sp := sumS_poly u0 u1
  show InR ((sumS (uF (absI p) q) 30 : Rat) / 1099511627776 - evalP polyT (Y * Y)) (1 / 2 ^ 26)
  have ub : InR ((uF (absI p) q : Rat) / 1099511627776) 158 := by
    have c0 : (0 : Rat) ≤ (uF (absI p) q : Rat) := Rat.intCast_nonneg.2 u0
    have c1 : (uF (absI p) q : Rat) ≤ ((173627916808752 : Int) : Rat) := Rat.intCast_le_intCast.2 u1
    rw [show ((173627916808752 : Int) : Rat) = 173627916808752 from rfl] at c1
    unfold InR; constructor <;> grind
  generalize (sumS (uF (absI p) q) 30 : Rat) / 1099511627776 = S at *
  generalize (uF (absI p) q : Rat) = u at *
  have hp : InR piD (22 / 7) := by unfold InR; decide +kernel
  have y1 : InR (Y - piD * x) (1 / 2 ^ 45) := by
    have := inR_add hY (inR_mul hp hX)
    rw [show Y - piD * X + piD * (X - x) = Y - piD * x by grind] at this
    exact inR_mono this (by decide +kernel)
  have px : InR (piD * x) (piD * 4) := by
    have := inR_mul (show InR piD piD by unfold InR; decide +kernel) hx4
    exact this
  have y2 := mul_near y1 y1 px px
  have yb : InR (Y * Y) 158 := inR_mono (near_in_add y2 (inR_mul px px)) (by decide +kernel)
  have d1 : InR (piD * piD - 10851744800547 / 1099511627776) (1 / 2 ^ 41) := by unfold InR; decide +kernel
  have d2 := inR_mul d1 (inR_mul hx4 hx4)
  have d : InR (u / 1099511627776 - Y * Y) (1 / 2 ^ 36) := by
    have a : InR (u / 1099511627776 - 10851744800547 / 1099511627776 * (x * x)) (5 / 2 / 1099511627776) := by unfold InR at hu ⊢; constructor <;> grind
    have := inR_add (inR_add a (inR_neg d2)) (inR_neg y2)
    rw [show u / 1099511627776 - 10851744800547 / 1099511627776 * (x * x) + -((piD * piD - 10851744800547 / 1099511627776) * (x * x)) + -(Y * Y - piD * x * (piD * x)) = u / 1099511627776 - Y * Y by grind] at this
    exact inR_mono this (by decide +kernel)
  have tn := turn_near ub yb d
  have := inR_add sp tn
  rw [show S - evalP polyT (u / 1099511627776) + (evalP polyT (u / 1099511627776) - evalP polyT (Y * Y)) = S - evalP polyT (Y * Y) by grind] at this
  exact inR_mono this (by decide +kernel)
theorem series_zero {q : Int} (hq : 0 < q) : seriesF 0 q = 1099511627776 := by
  show sumS (uF 0 q) 30 = _
  have := uF_whole (k := 0) (d := q) hq (by omega) (by omega)
  rw [Int.zero_mul] at this
  rw [this]
  decide +kernel
/-- ONE SIDE OF A WEIGHT: in integers, and by package math. -/
theorem side_words {p q : Int} {x : Nat} {X v : Rat} (hq : 0 < q) (hq1 : q ≤ 3145728) (h0 : -(4 * q) ≤ p) (h1 : p ≤ 4 * q) (hv : v * (q : Rat) = (p : Rat)) (fx : Fin64 x X) (hX : InR (X - v) (1 / 2 ^ 48)) (hz : p = 0 → x = 0) :
    ∃ r R T, Fin64 r R ∧ InR (R - T) (1 / 2 ^ 32) ∧ InR T 6 ∧ InR ((seriesF p q : Rat) / 1099511627776 - T) (1 / 2 ^ 26) ∧
      ∀ w, Tables w → Calls Tryd.prog 9 #[.float .f64 x] w fun e w' => e = .returned (.float .f64 r) ∧ w = w' := by
  by_cases hp : p = 0
  · subst hp
    rw [series_zero hq, hz rfl]
    exact ⟨4607182418800017408, 1, 1, one_fin, by unfold InR; decide +kernel, by unfold InR; decide +kernel, by unfold InR; decide +kernel, fun w _ => real_zero w⟩
  · have hqp : (0 : Rat) < (q : Rat) := Rat.intCast_pos.2 hq
    have q1 : (q : Rat) ≤ 3145728 := by
      have : (q : Rat) ≤ ((3145728 : Int) : Rat) := Rat.intCast_le_intCast.2 hq1
      exact this
    have hv4 : InR v 4 := by
      refine cut_by (A := (q : Rat)) ?_ hqp
      rw [hv]
      have c0 : ((-(4 * q) : Int) : Rat) ≤ (p : Rat) := Rat.intCast_le_intCast.2 h0
      have c1 : (p : Rat) ≤ ((4 * q : Int) : Rat) := Rat.intCast_le_intCast.2 h1
      rw [Rat.intCast_neg, Rat.intCast_mul, show ((4 : Int) : Rat) = 4 from rfl] at c0
      rw [Rat.intCast_mul, show ((4 : Int) : Rat) = 4 from rfl] at c1
      exact ⟨c0, c1⟩
    have X1 : X.abs ≤ 4 + 1 / 2 ^ 20 := by
      have : InR X (4 + 1 / 2 ^ 20) := inR_mono (near_in_add hX hv4) (by decide +kernel)
      exact abs_of_inR this
    have X0 : 1 / 2 ^ 23 ≤ X.abs := by
      have vb : 1 / 3145728 ≤ v ∨ v ≤ -(1 / 3145728) := by
        by_cases hs : 0 < p
        · left
          have : ((1 : Int) : Rat) ≤ (p : Rat) := Rat.intCast_le_intCast.2 hs
          rw [show ((1 : Int) : Rat) = 1 from rfl, ← hv] at this
          by_cases g : 1 / 3145728 ≤ v
          · exact g
          · have a := Rat.mul_pos (show 0 < 1 / 3145728 - v by grind) hqp
            grind
        · right
          have : (p : Rat) ≤ ((-1 : Int) : Rat) := Rat.intCast_le_intCast.2 (by omega)
          rw [show ((-1 : Int) : Rat) = -1 from rfl, ← hv] at this
          by_cases g : v ≤ -(1 / 3145728)
          · exact g
          · have a := Rat.mul_pos (show 0 < v + 1 / 3145728 by grind) hqp
            grind
      unfold InR at hX
      rcases vb with h | h
      · rw [Rat.abs_of_nonneg (by grind)]; grind
      · rw [Rat.abs_of_nonpos (by grind)]; grind
    obtain ⟨r, R, Y, fr, y1, y2, y3, hc⟩ := real_words fx X0 X1
    exact ⟨r, R, evalP polyT (Y * Y), fr, y2, y3, series_near hq h0 h1 hv hX y1, hc⟩
end Go.Proofs.YthakcpjlnopcfaaDoor
