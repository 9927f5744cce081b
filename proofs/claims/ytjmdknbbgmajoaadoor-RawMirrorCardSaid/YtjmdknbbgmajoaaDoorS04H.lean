/- The laws on how near the sinc is: their words. -/
import Derived.Test.YtjmdknbbgmajoaaDoorS04G
import Derived.Test.YtjmdknbbgmajoaaDoorS04B
namespace Go.Proofs.YtjmdknbbgmajoaaDoor
open Go.RowKit Ieee


theorem quotient_zero {y : Nat} {v : Rat} (fy : Fin64 y v) (hv : 0 < v) : double.div 0 y = some 0 := by
  obtain ⟨t, n, j, ry, rfl⟩ := fy
  have hn : n ≠ 0 := by
    rintro rfl
    rw [show ((0 : Nat) : Rat) = 0 from rfl, Rat.zero_mul] at hv
    unfold sgnR at hv
    cases t <;> simp at hv <;> grind
  have ht : t = false := by
    cases t
    · rfl
    · have : 0 ≤ (n : Rat) * pw2 j := Rat.mul_nonneg (Rat.natCast_nonneg) (Rat.le_of_lt (pw2_pos _))
      replace hv : 0 < -((n : Rat) * pw2 j) := hv
      grind
  subst ht
  unfold Format.div
  rw [ry, show double.read 0 = .number false 0 (-1074) by decide]
  unfold Datum.quotient
  dsimp only
  rw [if_neg hn, Nat.zero_shiftLeft, Nat.zero_div, Nat.zero_mod]
  rfl
theorem frac_words {a d : Int} (d0 : 1 ≤ d) (d1 : d ≤ 1048576) (h0 : -(4 * d) ≤ a) (h1 : a ≤ 4 * d) :
    ∃ x X v, double.div (floatOfInt .f64 a) (floatOfInt .f64 d) = some x ∧ Fin64 x X ∧ v * (d : Rat) = (a : Rat) ∧ InR (X - v) (1 / 2 ^ 48) ∧ InR X 6 ∧ (a = 0 → x = 0) := by
  have hd : (0 : Rat) < (d : Rat) := Rat.intCast_pos.2 (by omega)
  have dq : (d : Rat) ≤ 1048576 := by
    have : (d : Rat) ≤ ((1048576 : Int) : Rat) := Rat.intCast_le_intCast.2 d1
    exact this
  have d1q : 1 ≤ (d : Rat) := by
    have : ((1 : Int) : Rat) ≤ (d : Rat) := Rat.intCast_le_intCast.2 d0
    exact this
  have ha : InR (a : Rat) (4 * (d : Rat)) := by
    have c0 : ((-(4 * d) : Int) : Rat) ≤ (a : Rat) := Rat.intCast_le_intCast.2 h0
    have c1 : (a : Rat) ≤ ((4 * d : Int) : Rat) := Rat.intCast_le_intCast.2 h1
    rw [Rat.intCast_neg, Rat.intCast_mul, show ((4 : Int) : Rat) = 4 from rfl] at c0
    rw [Rat.intCast_mul, show ((4 : Int) : Rat) = 4 from rfl] at c1
    exact ⟨c0, c1⟩
  obtain ⟨A, fA, eA⟩ := ofInt_in ha (by grind)
  obtain ⟨D, fD, eD⟩ := ofInt_in (show InR (d : Rat) (d : Rat) by unfold InR; constructor <;> grind) (by grind)
  obtain ⟨v, hv⟩ : ∃ v, v * (d : Rat) = (a : Rat) := ⟨(a : Rat) / (d : Rat), Rat.div_mul_cancel (by grind)⟩
  have hv4 : InR v 4 := by
    refine cut_by (A := (d : Rat)) ?_ hd
    rw [hv]; exact ha
  have D0 : (d : Rat) * (9 / 10) ≤ D := by unfold InR at eD; grind
  obtain ⟨Q, hQ⟩ : ∃ Q, Q * D = A := ⟨A / D, Rat.div_mul_cancel (by grind)⟩
  have hQv : InR (Q - v) (10 / 2 ^ 53) := by
    refine cut_by (A := D) ?_ (by grind)
    have := inR_add eA (inR_neg (inR_mul hv4 eD))
    rw [show A - (a : Rat) + -(v * (D - (d : Rat))) = (Q - v) * D by rw [← hQ, ← hv]; grind] at this
    refine inR_mono this ?_
    grind
  have hQ5 : InR Q 5 := inR_mono (near_in_add hQv hv4) (by decide +kernel)
  obtain ⟨x, X, x1, fx, x2⟩ := div_in (B := 5) fA fD (by grind) hQ hQ5 (by decide +kernel)
  refine ⟨x, X, v, x1, fx, hv, ?_, inR_mono (near_in_add x2 hQ5) (by decide +kernel), ?_⟩
  · have := inR_add x2 hQv
    rw [show X - Q + (Q - v) = X - v by grind] at this
    exact inR_mono this (by decide +kernel)
  · rintro rfl
    have : floatOfInt .f64 0 = 0 := by decide
    rw [this, quotient_zero fD (by grind)] at x1
    exact (Option.some.inj x1).symm
theorem coarse_fin : Fin64 4742290407621132288 1073741824 := const_fin (n := 22) (s := false) (m := 4503599627370496) (by decide +kernel) (by decide +kernel)
/-- A whole number in parts of a power of two. -/
theorem part_words {c : Nat} {S : Int} {K T : Rat} (fc : Fin64 c K) (hK : 1 ≤ K) (hK1 : K ≤ 2 ^ 41) (hS : InR ((S : Rat) / K) T) (hT : T ≤ 40) :
    ∃ s v, double.div (floatOfInt .f64 S) c = some s ∧ Fin64 s v ∧ InR (v - (S : Rat) / K) (1 / 2 ^ 40) := by
  have hS8 : InR ((S : Rat) / K) 40 := inR_mono hS hT
  have hSK : (S : Rat) / K * K = (S : Rat) := Rat.div_mul_cancel (by grind)
  have hSb : InR (S : Rat) (40 * K) := by
    have := inR_mul hS8 (show InR K K by unfold InR; constructor <;> grind)
    rw [hSK] at this; exact this
  obtain ⟨A, fA, eA⟩ := ofInt_in hSb (by grind)
  obtain ⟨Q, hQ⟩ : ∃ Q, Q * K = A := ⟨A / K, Rat.div_mul_cancel (by grind)⟩
  have hQs : InR (Q - (S : Rat) / K) (1 / 2 ^ 46) := by
    refine cut_by (A := K) ?_ (by grind)
    rw [show (Q - (S : Rat) / K) * K = A - (S : Rat) by rw [Rat.sub_eq_add_neg, Rat.add_mul, hQ, Rat.neg_mul, hSK, ← Rat.sub_eq_add_neg]]
    exact inR_mono eA (by grind)
  have hQ9 : InR Q 41 := inR_mono (near_in_add hQs hS8) (by decide +kernel)
  obtain ⟨s, v, s1, fs, s2⟩ := div_in (B := 41) fA fc (by grind) hQ hQ9 (by decide +kernel)
  refine ⟨s, v, s1, fs, ?_⟩
  have := inR_add s2 hQs
  rw [show v - Q + (Q - (S : Rat) / K) = v - (S : Rat) / K by grind] at this
  exact inR_mono this (by decide +kernel)
/-- Near enough. -/
theorem close_words {s r c : Nat} {v R e B : Rat} (fs : Fin64 s v) (fr : Fin64 r R) (h : InR (v - R) e) (he : e ≤ 1) (fc : Fin64 c B) (hB : e + 1 / 2 ^ 50 < B) :
    ∃ z, double.sub s r = some z ∧ z < 18446744073709551616 ∧ (FloatKind.f64.format.order (z % 9223372036854775808) c == some .lt) = true := by
  obtain ⟨z, Z, z1, fz, z2⟩ := sub_in (B := 1) fs fr (inR_mono h he) (by decide +kernel)
  refine ⟨z, z1, double.sub_lt z1, ?_⟩
  show (double.order (z % 9223372036854775808) c == some .lt) = true
  rw [order_val (abs_word fz) fc]
  have : InR Z (e + (1 / 2 ^ 53 + 1 / 2 ^ 150)) := near_in_add z2 h
  have := abs_of_inR this
  rw [if_pos (by grind)]
  rfl
end Go.Proofs.YtjmdknbbgmajoaaDoor
