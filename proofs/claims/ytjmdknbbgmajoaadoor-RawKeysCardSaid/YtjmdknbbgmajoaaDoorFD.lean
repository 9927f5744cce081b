/- The sine of package math: what its words come to, nearly. -/
import Derived.Test.YtjmdknbbgmajoaaDoorFA
import Derived.Test.YtjmdknbbgmajoaaDoorFB
namespace Go.Proofs.YtjmdknbbgmajoaaDoor
open Ieee


theorem pw2_m53_lit : pw2 (-53) = 1 / 9007199254740992 := by
  have a := pw2_m53
  have b := pw2_m54
  grind
theorem pw2_m52_lit : pw2 (-52) = 1 / 4503599627370496 := by
  have a := pw2_m52
  have b := pw2_m54
  grind
theorem pw2_tiny : pw2 (-1075) ≤ 1 / 2 ^ 150 := by
  have a := pw2_neg 150
  rw [show pw2 150 = 2 ^ 150 by rw [show (150 : Int) = ((150 : Nat) : Int) from rfl, pw2_nat]; rfl] at a
  have b := pw2_le (show (-1075 : Int) ≤ -150 by omega)
  generalize pw2 (-150) = x at *
  generalize pw2 (-1075) = y at *
  grind
theorem pw2_960 : (2 : Rat) ^ 100 < pw2 950 := by
  have a : pw2 101 ≤ pw2 950 := pw2_le (by omega)
  rw [show pw2 101 = 2 ^ 101 by rw [show (101 : Int) = ((101 : Nat) : Int) from rfl, pw2_nat]; rfl] at a
  grind
theorem pw2_960' : (2 : Rat) ^ 100 < pw2 960 := by
  have a : pw2 950 ≤ pw2 960 := pw2_le (by omega)
  have b := pw2_960
  grind
theorem abs_of_inR {v B : Rat} (h : InR v B) : v.abs ≤ B := by
  unfold InR at h; unfold Rat.abs; split <;> grind
theorem offR_le {v B : Rat} (h : InR v B) : offR v ≤ B / 2 ^ 53 + 1 / 2 ^ 150 := by
  have a := abs_of_inR h
  have t := pw2_tiny
  unfold offR
  rw [pw2_m53_lit]
  generalize v.abs = x at *
  generalize pw2 (-1075) = y at *
  grind
theorem offQ_le {v B : Rat} (h : InR v B) : offQ v ≤ B / 2 ^ 52 + 1 / 2 ^ 150 := by
  have a := abs_of_inR h
  have t := pw2_tiny
  unfold offQ
  rw [pw2_m52_lit]
  generalize v.abs = x at *
  generalize pw2 (-1075) = y at *
  grind
theorem inR_of_near {x y e f : Rat} (h : NearR x y e) (g : e ≤ f) : InR (x - y) f := by unfold NearR at h; unfold InR; constructor <;> grind
/-- The operations, with a bound of what they come to. -/
theorem add_in {x y : Nat} {u v B : Rat} (hx : Fin64 x u) (hy : Fin64 y v) (h : InR (u + v) B) (hB : B ≤ 2 ^ 100) :
    ∃ r z, double.add x y = some r ∧ Fin64 r z ∧ InR (z - (u + v)) (B / 2 ^ 53 + 1 / 2 ^ 150) := by
  obtain ⟨r, z, a, b, c⟩ := add_val hx hy (by have := abs_of_inR h; have := pw2_960'; grind)
  exact ⟨r, z, a, b, inR_of_near c (offR_le h)⟩
theorem sub_in {x y : Nat} {u v B : Rat} (hx : Fin64 x u) (hy : Fin64 y v) (h : InR (u - v) B) (hB : B ≤ 2 ^ 100) :
    ∃ r z, double.sub x y = some r ∧ Fin64 r z ∧ InR (z - (u - v)) (B / 2 ^ 53 + 1 / 2 ^ 150) := by
  obtain ⟨r, z, a, b, c⟩ := sub_val hx hy (by have := abs_of_inR h; have := pw2_960'; grind)
  exact ⟨r, z, a, b, inR_of_near c (offR_le h)⟩
theorem mul_in {x y : Nat} {u v B : Rat} (hx : Fin64 x u) (hy : Fin64 y v) (h : InR (u * v) B) (hB : B ≤ 2 ^ 100) :
    ∃ r z, double.mul x y = some r ∧ Fin64 r z ∧ InR (z - u * v) (B / 2 ^ 53 + 1 / 2 ^ 150) := by
  obtain ⟨r, z, a, b, c⟩ := mul_val hx hy (by have := abs_of_inR h; have := pw2_960'; grind)
  exact ⟨r, z, a, b, inR_of_near c (offR_le h)⟩
theorem div_in {x y : Nat} {u v Q B : Rat} (hx : Fin64 x u) (hy : Fin64 y v) (hv : v ≠ 0) (hQ : Q * v = u) (h : InR Q B) (hB : B ≤ 2 ^ 100) :
    ∃ r z, double.div x y = some r ∧ Fin64 r z ∧ InR (z - Q) (B / 2 ^ 52 + 1 / 2 ^ 150) := by
  obtain ⟨r, z, a, b, c⟩ := div_val hx hy hv hQ (by have := abs_of_inR h; have := pw2_960; grind)
  exact ⟨r, z, a, b, inR_of_near c (offQ_le h)⟩
theorem ofInt_in {n : Int} {B : Rat} (h : InR (n : Rat) B) (hB : B ≤ 2 ^ 100) : ∃ z, Fin64 (floatOfInt .f64 n) z ∧ InR (z - n) (B / 2 ^ 53 + 1 / 2 ^ 150) := by
  obtain ⟨z, a, b⟩ := ofInt_val n (by have := abs_of_inR h; have := pw2_960'; grind)
  exact ⟨z, a, inR_of_near b (offR_le h)⟩
/-- A product of two that are nearly so. -/
theorem mul_near {a b A B e f M N : Rat} (ha : InR (a - A) e) (hb : InR (b - B) f) (hA : InR A M) (hB : InR B N) : InR (a * b - A * B) (M * f + e * N + e * f) := by
  have e1 : a * b - A * B = A * (b - B) + (a - A) * B + (a - A) * (b - B) := by grind
  rw [e1]
  exact inR_add (inR_add (inR_mul hA hb) (inR_mul ha hB)) (inR_mul ha hb)
theorem near_in_add {a A e M : Rat} (ha : InR (a - A) e) (hA : InR A M) : InR a (M + e) := by unfold InR at *; constructor <;> grind
/-- One step up a short polynomial. -/
theorem horner_step {aw zw cw : Nat} {a A z w c : Rat} (fa : Fin64 aw a) (ha : InR (a - A) (1 / 2 ^ 37)) (hA : InR A (1 / 2)) (fz : Fin64 zw z) (hz : InR (z - w) (1 / 2 ^ 38)) (hw : InR w (63 / 100)) (fc : Fin64 cw c) (hc : InR c 1) :
    ∃ m s v, double.mul aw zw = some m ∧ double.add m cw = some s ∧ Fin64 s v ∧ InR (v - (c + w * A)) (1 / 2 ^ 37) := by
  have p := mul_near ha hz hA hw
  have pb := near_in_add p (inR_mul hA hw)
  obtain ⟨m, mv, m1, m2, m3⟩ := mul_in (B := 1) fa fz (inR_mono pb (by decide +kernel)) (by decide +kernel)
  have q : InR (mv - A * w) (1 / 2 * (1 / 2 ^ 38) + 1 / 2 ^ 37 * (63 / 100) + 1 / 2 ^ 37 * (1 / 2 ^ 38) + (1 / 2 ^ 53 + 1 / 2 ^ 150)) := by
    have := inR_add p m3
    rw [show a * z - A * w + (mv - a * z) = mv - A * w by grind] at this
    exact this
  have qb := near_in_add q (inR_mul hA hw)
  obtain ⟨s, sv, s1, s2, s3⟩ := add_in (B := 2) m2 fc (inR_mono (inR_add qb hc) (by decide +kernel)) (by decide +kernel)
  refine ⟨m, s, sv, m1, s1, s2, ?_⟩
  have := inR_add q s3
  rw [show mv - A * w + (sv - (mv + c)) = sv - (c + w * A) by grind] at this
  exact inR_mono this (by decide +kernel)
theorem pw2_lit (n : Nat) : pw2 (-(n : Int)) * 2 ^ n = 1 := by
  have a := pw2_neg (n : Int)
  rw [pw2_nat, Rat.natCast_pow] at a
  rw [show ((2 : Nat) : Rat) = 2 from rfl] at a
  grind
theorem const_fin {c m n : Nat} {s : Bool} {v : Rat} (h : double.read c = .number s m (-(n : Int))) (hv : v * 2 ^ n = if s then -(m : Rat) else (m : Rat)) : Fin64 c v := by
  refine ⟨s, m, _, h, ?_⟩
  have a := pw2_lit n
  have e : v = (v * 2 ^ n) * pw2 (-(n : Int)) := by grind
  rw [e, hv]
  unfold sgnR
  cases s <;> simp <;> grind
/-- Six coefficients, the last ones first. -/
theorem horner_six {c0 c1 c2 c3 c4 c5 zw : Nat} {r0 r1 r2 r3 r4 r5 z w : Rat} (h0 : Fin64 c0 r0) (h1 : Fin64 c1 r1) (h2 : Fin64 c2 r2) (h3 : Fin64 c3 r3) (h4 : Fin64 c4 r4) (h5 : Fin64 c5 r5)
    (fz : Fin64 zw z) (hz : InR (z - w) (1 / 2 ^ 38)) (hw : InR w (63 / 100))
    (b0 : topP [r0] (63 / 100) ≤ 1 / 2) (b1 : topP [r1, r0] (63 / 100) ≤ 1 / 2) (b2 : topP [r2, r1, r0] (63 / 100) ≤ 1 / 2) (b3 : topP [r3, r2, r1, r0] (63 / 100) ≤ 1 / 2) (b4 : topP [r4, r3, r2, r1, r0] (63 / 100) ≤ 1 / 2)
    (e1 : r1.abs ≤ 1) (e2 : r2.abs ≤ 1) (e3 : r3.abs ≤ 1) (e4 : r4.abs ≤ 1) (e5 : r5.abs ≤ 1) :
    ∃ m1 s1 m2 s2 m3 s3 m4 s4 m5 s5 v, double.mul c0 zw = some m1 ∧ double.add m1 c1 = some s1 ∧ double.mul s1 zw = some m2 ∧ double.add m2 c2 = some s2 ∧ double.mul s2 zw = some m3 ∧ double.add m3 c3 = some s3 ∧ double.mul s3 zw = some m4 ∧ double.add m4 c4 = some s4 ∧ double.mul s4 zw = some m5 ∧ double.add m5 c5 = some s5 ∧
      Fin64 s5 v ∧ InR (v - evalP [r5, r4, r3, r2, r1, r0] w) (1 / 2 ^ 37) := by
  have q0 : InR (r0 - evalP [r0] w) (1 / 2 ^ 37) := by
    have : r0 - evalP [r0] w = 0 := by simp only [evalP]; grind
    rw [this]; unfold InR; decide +kernel
  obtain ⟨m1, s1, v1, x1, y1, f1, q1⟩ := horner_step h0 q0 (inR_mono (evalP_in _ hw) b0) fz hz hw h1 (inR_mono (abs_inR _) e1)
  obtain ⟨m2, s2, v2, x2, y2, f2, q2⟩ := horner_step (A := evalP [r1, r0] w) f1 q1 (inR_mono (evalP_in _ hw) b1) fz hz hw h2 (inR_mono (abs_inR _) e2)
  obtain ⟨m3, s3, v3, x3, y3, f3, q3⟩ := horner_step (A := evalP [r2, r1, r0] w) f2 q2 (inR_mono (evalP_in _ hw) b2) fz hz hw h3 (inR_mono (abs_inR _) e3)
  obtain ⟨m4, s4, v4, x4, y4, f4, q4⟩ := horner_step (A := evalP [r3, r2, r1, r0] w) f3 q3 (inR_mono (evalP_in _ hw) b3) fz hz hw h4 (inR_mono (abs_inR _) e4)
  obtain ⟨m5, s5, v5, x5, y5, f5, q5⟩ := horner_step (A := evalP [r4, r3, r2, r1, r0] w) f4 q4 (inR_mono (evalP_in _ hw) b4) fz hz hw h5 (inR_mono (abs_inR _) e5)
  exact ⟨m1, s1, m2, s2, m3, s3, m4, s4, m5, s5, v5, x1, y1, x2, y2, x3, y3, x4, y4, x5, y5, f5, q5⟩
/-- The words of package math's two short polynomials. -/
def Horner (c0 c1 c2 c3 c4 c5 zw r : Nat) : Prop :=
  ∃ m1 s1 m2 s2 m3 s3 m4 s4 m5, double.mul c0 zw = some m1 ∧ double.add m1 c1 = some s1 ∧ double.mul s1 zw = some m2 ∧ double.add m2 c2 = some s2 ∧ double.mul s2 zw = some m3 ∧ double.add m3 c3 = some s3 ∧ double.mul s3 zw = some m4 ∧ double.add m4 c4 = some s4 ∧ double.mul s4 zw = some m5 ∧ double.add m5 c5 = some r
def sinD : List Rat := [-750599937895081 / 2 ^ 52, 300239975157629 / 2 ^ 55, -7320136532877059 / 2 ^ 65, 6506786710177953 / 2 ^ 71, -7571123942793053 / 2 ^ 78, 6149556183080141 / 2 ^ 85]
def cosD : List Rat := [6004799503160651 / 2 ^ 57, -6405119470030737 / 2 ^ 62, 7320136533427445 / 2 ^ 68, -2602714736764387 / 2 ^ 73, 5047434750082821 / 2 ^ 81, -7030593573755547 / 2 ^ 89]
theorem horner_sin {zw : Nat} {z w : Rat} (fz : Fin64 zw z) (hz : InR (z - w) (1 / 2 ^ 38)) (hw : InR w (63 / 100)) :
    ∃ r v, Horner 4460209587652500685 13716528389658582877 4523617212962785441 13774824197404483331 4575957461383575504 13818544856648471880 zw r ∧ Fin64 r v ∧ InR (v - evalP sinD w) (1 / 2 ^ 37) := by
  obtain ⟨m1, s1, m2, s2, m3, s3, m4, s4, m5, s5, v5, x1, y1, x2, y2, x3, y3, x4, y4, x5, y5, f5, q5⟩ := horner_six
    (c0 := 4460209587652500685) (c1 := 13716528389658582877) (c2 := 4523617212962785441) (c3 := 13774824197404483331) (c4 := 4575957461383575504) (c5 := 13818544856648471880)
    (r0 := 6149556183080141 / 2 ^ 85) (r1 := -7571123942793053 / 2 ^ 78) (r2 := 6506786710177953 / 2 ^ 71) (r3 := -7320136532877059 / 2 ^ 65) (r4 := 300239975157629 / 2 ^ 55) (r5 := -750599937895081 / 2 ^ 52)
    (const_fin (n := 85) (s := false) (m := 6149556183080141) (by decide +kernel) (by decide +kernel))
    (const_fin (n := 78) (s := true) (m := 7571123942793053) (by decide +kernel) (by decide +kernel))
    (const_fin (n := 71) (s := false) (m := 6506786710177953) (by decide +kernel) (by decide +kernel))
    (const_fin (n := 65) (s := true) (m := 7320136532877059) (by decide +kernel) (by decide +kernel))
    (const_fin (n := 59) (s := false) (m := 4803839602522064) (by decide +kernel) (by decide +kernel))
    (const_fin (n := 55) (s := true) (m := 6004799503160648) (by decide +kernel) (by decide +kernel))
    fz hz hw (by decide +kernel) (by decide +kernel) (by decide +kernel) (by decide +kernel) (by decide +kernel) (by decide +kernel) (by decide +kernel) (by decide +kernel) (by decide +kernel) (by decide +kernel)
  exact ⟨s5, v5, ⟨m1, s1, m2, s2, m3, s3, m4, s4, m5, x1, y1, x2, y2, x3, y3, x4, y4, x5, y5⟩, f5, q5⟩
theorem horner_cos {zw : Nat} {z w : Rat} (fz : Fin64 zw z) (hz : InR (z - w) (1 / 2 ^ 38)) (hw : InR w (63 / 100)) :
    ∃ r v, Horner 13666448263388469915 4477121864728985349 13732177093698800582 4537941361668146421 13787419979223748497 4586165620538955083 zw r ∧ Fin64 r v ∧ InR (v - evalP cosD w) (1 / 2 ^ 37) := by
  obtain ⟨m1, s1, m2, s2, m3, s3, m4, s4, m5, s5, v5, x1, y1, x2, y2, x3, y3, x4, y4, x5, y5, f5, q5⟩ := horner_six
    (c0 := 13666448263388469915) (c1 := 4477121864728985349) (c2 := 13732177093698800582) (c3 := 4537941361668146421) (c4 := 13787419979223748497) (c5 := 4586165620538955083)
    (r0 := -7030593573755547 / 2 ^ 89) (r1 := 5047434750082821 / 2 ^ 81) (r2 := -2602714736764387 / 2 ^ 73) (r3 := 7320136533427445 / 2 ^ 68) (r4 := -6405119470030737 / 2 ^ 62) (r5 := 6004799503160651 / 2 ^ 57)
    (const_fin (n := 89) (s := true) (m := 7030593573755547) (by decide +kernel) (by decide +kernel))
    (const_fin (n := 81) (s := false) (m := 5047434750082821) (by decide +kernel) (by decide +kernel))
    (const_fin (n := 74) (s := true) (m := 5205429473528774) (by decide +kernel) (by decide +kernel))
    (const_fin (n := 68) (s := false) (m := 7320136533427445) (by decide +kernel) (by decide +kernel))
    (const_fin (n := 62) (s := true) (m := 6405119470030737) (by decide +kernel) (by decide +kernel))
    (const_fin (n := 57) (s := false) (m := 6004799503160651) (by decide +kernel) (by decide +kernel))
    fz hz hw (by decide +kernel) (by decide +kernel) (by decide +kernel) (by decide +kernel) (by decide +kernel) (by decide +kernel) (by decide +kernel) (by decide +kernel) (by decide +kernel) (by decide +kernel)
  exact ⟨s5, v5, ⟨m1, s1, m2, s2, m3, s3, m4, s4, m5, x1, y1, x2, y2, x3, y3, x4, y4, x5, y5⟩, f5, q5⟩
theorem one_fin : Fin64 4607182418800017408 1 := const_fin (n := 52) (s := false) (m := 4503599627370496) (by decide +kernel) (by decide +kernel)
theorem half_fin : Fin64 4602678819172646912 (1 / 2) := const_fin (n := 53) (s := false) (m := 4503599627370496) (by decide +kernel) (by decide +kernel)
/-- The cosine's end. -/
theorem cos_end {zw : Nat} {z w : Rat} (fz : Fin64 zw z) (hz : InR (z - w) (1 / 2 ^ 38)) (hw : InR w (63 / 100)) :
    ∃ h d q r p y v, double.mul 4602678819172646912 zw = some h ∧ double.sub 4607182418800017408 h = some d ∧ double.mul zw zw = some q ∧ Horner 13666448263388469915 4477121864728985349 13732177093698800582 4537941361668146421 13787419979223748497 4586165620538955083 zw r ∧ double.mul q r = some p ∧ double.add d p = some y ∧
      Fin64 y v ∧ InR (v - evalP cosC w) (1 / 2 ^ 36) := by
  obtain ⟨r, rv, hr, fr, qr⟩ := horner_cos fz hz hw
  have hA : InR (evalP cosD w) (1 / 2) := inR_mono (evalP_in _ hw) (by decide +kernel)
  have zb : InR z (64 / 100) := inR_mono (near_in_add hz hw) (by decide +kernel)
  have hh : InR (1 / 2 : Rat) (1 / 2) := by unfold InR; decide +kernel
  have h0 : InR ((1 / 2 : Rat) - 1 / 2) 0 := by unfold InR; decide +kernel
  obtain ⟨h, hv, h1, h2, h3⟩ := mul_in (B := 1) half_fin fz (inR_mono (inR_mul hh zb) (by decide +kernel)) (by decide +kernel)
  have e1 : InR (hv - 1 / 2 * w) (1 / 2 * (1 / 2 ^ 38) + (1 / 2 ^ 53 + 1 / 2 ^ 150)) := by
    have := inR_add (inR_mul hh hz) h3
    rw [show 1 / 2 * (z - w) + (hv - 1 / 2 * z) = hv - 1 / 2 * w by grind] at this
    exact this
  have hb : InR hv 1 := inR_mono (near_in_add e1 (inR_mul hh hw)) (by decide +kernel)
  obtain ⟨d, dv, d1, d2, d3⟩ := sub_in (B := 2) one_fin h2 (by unfold InR at *; constructor <;> grind) (by decide +kernel)
  have e2 : InR (dv - (1 - 1 / 2 * w)) (1 / 2 * (1 / 2 ^ 38) + (1 / 2 ^ 53 + 1 / 2 ^ 150) + (2 / 2 ^ 53 + 1 / 2 ^ 150)) := by
    unfold InR at *; constructor <;> grind
  obtain ⟨q, qv, q1, q2, q3⟩ := mul_in (B := 1) fz fz (inR_mono (inR_mul zb zb) (by decide +kernel)) (by decide +kernel)
  have e3 : InR (qv - w * w) (1 / 2 ^ 37) := by
    have := inR_add (mul_near hz hz hw hw) q3
    rw [show z * z - w * w + (qv - z * z) = qv - w * w by grind] at this
    exact inR_mono this (by decide +kernel)
  have ww : InR (w * w) (1 / 2) := inR_mono (inR_mul hw hw) (by decide +kernel)
  have qb : InR qv 1 := inR_mono (near_in_add e3 ww) (by decide +kernel)
  have rb : InR rv 1 := inR_mono (near_in_add qr hA) (by decide +kernel)
  obtain ⟨p, pv, p1, p2, p3⟩ := mul_in (B := 1) q2 fr (inR_mono (inR_mul qb rb) (by decide +kernel)) (by decide +kernel)
  have e4 : InR (pv - w * w * evalP cosD w) (1 / 2 ^ 37 + 1 / 2 ^ 50) := by
    have := inR_add (mul_near e3 qr ww hA) p3
    rw [show qv * rv - w * w * evalP cosD w + (pv - qv * rv) = pv - w * w * evalP cosD w by grind] at this
    exact inR_mono this (by decide +kernel)
  have pb : InR pv 1 := inR_mono (near_in_add e4 (inR_mul ww hA)) (by decide +kernel)
  have db : InR dv 3 := by unfold InR at *; constructor <;> grind
  obtain ⟨y, yv, y1, y2, y3⟩ := add_in (B := 4) d2 p2 (inR_mono (inR_add db pb) (by decide +kernel)) (by decide +kernel)
  refine ⟨h, d, q, r, p, y, yv, h1, d1, q1, hr, p1, y1, y2, ?_⟩
  have := inR_add (inR_add e2 e4) y3
  rw [show dv - (1 - 1 / 2 * w) + (pv - w * w * evalP cosD w) + (yv - (dv + pv)) = yv - evalP cosC w by
    rw [show evalP cosC w = 1 + w * (-1 / 2 + w * evalP cosD w) from rfl]; grind] at this
  exact inR_mono this (by decide +kernel)
/-- The sine's end: off by a part of 'k', which the angle isn't above. -/
theorem sin_end {xw zw : Nat} {x y z w k : Rat} (k0 : 1 / 2 ^ 30 ≤ k) (k1 : k ≤ 1) (fx : Fin64 xw x) (hx : InR (x - y) (k / 2 ^ 39)) (hy : InR y k) (fz : Fin64 zw z) (hz : InR (z - w) (1 / 2 ^ 38)) (hw : InR w (63 / 100)) :
    ∃ q r p s v, double.mul xw zw = some q ∧ Horner 4460209587652500685 13716528389658582877 4523617212962785441 13774824197404483331 4575957461383575504 13818544856648471880 zw r ∧ double.mul q r = some p ∧ double.add xw p = some s ∧
      Fin64 s v ∧ InR (v - y * evalP sinC w) (k / 2 ^ 35) := by
  obtain ⟨r, rv, hr, fr, qr⟩ := horner_sin fz hz hw
  have hA : InR (evalP sinD w) (1 / 2) := inR_mono (evalP_in _ hw) (by decide +kernel)
  have xb := near_in_add hx hy
  have zb : InR z (64 / 100) := inR_mono (near_in_add hz hw) (by decide +kernel)
  obtain ⟨q, qv, q1, q2, q3⟩ := mul_in (B := k) fx fz (inR_mono (inR_mul xb zb) (by grind)) (by grind)
  have e1 : InR (qv - y * w) (k / 2 ^ 37) := by
    have := inR_add (mul_near hx hz hy hw) q3
    rw [show x * z - y * w + (qv - x * z) = qv - y * w by grind] at this
    exact inR_mono this (by grind)
  have yw : InR (y * w) (k * (63 / 100)) := inR_mul hy hw
  have qb : InR qv k := inR_mono (near_in_add e1 yw) (by grind)
  have rb : InR rv 1 := inR_mono (near_in_add qr hA) (by decide +kernel)
  obtain ⟨p, pv, p1, p2, p3⟩ := mul_in (B := k) q2 fr (inR_mono (inR_mul qb rb) (by grind)) (by grind)
  have e2 : InR (pv - y * w * evalP sinD w) (k / 2 ^ 36) := by
    have := inR_add (mul_near e1 qr yw hA) p3
    rw [show qv * rv - y * w * evalP sinD w + (pv - qv * rv) = pv - y * w * evalP sinD w by grind] at this
    exact inR_mono this (by grind)
  have pb : InR pv k := inR_mono (near_in_add e2 (inR_mul yw hA)) (by grind)
  obtain ⟨s, sv, s1, s2, s3⟩ := add_in (B := 3 * k) fx p2 (inR_mono (inR_add xb pb) (by grind)) (by grind)
  refine ⟨q, r, p, s, sv, q1, hr, p1, s1, s2, ?_⟩
  have := inR_add (inR_add hx e2) s3
  rw [show x - y + (pv - y * w * evalP sinD w) + (sv - (x + pv)) = sv - y * evalP sinC w by
    rw [show evalP sinC w = 1 + w * evalP sinD w from rfl]; grind] at this
  exact inR_mono this (by grind)
/-- The words of the way down to an angle below an eighth of a turn. -/
def Reduced (y0 n yj z : Nat) : Prop :=
  ∃ t a1 b1 a2 b2 a3, double.mul y0 4608412980311869571 = some t ∧ floatToIntVal .f64 t .u64 = some (n : Int) ∧
    ((n % 2 = 0 ∧ yj = floatOfInt .f64 (n : Int)) ∨ (n % 2 = 1 ∧ double.add (floatOfInt .f64 (n : Int)) 4607182418800017408 = some yj)) ∧
    double.mul yj 4605249456957292544 = some a1 ∧ double.sub y0 a1 = some b1 ∧ double.mul yj 4495793288086814720 = some a2 ∧ double.sub b1 a2 = some b2 ∧ double.mul yj 4388835458085048688 = some a3 ∧ double.sub b2 a3 = some z
theorem four_fin : Fin64 4608412980311869571 (5734161139222659 / 2 ^ 52) := const_fin (n := 52) (s := false) (m := 5734161139222659) (by decide +kernel) (by decide +kernel)
theorem piA_fin : Fin64 4605249456957292544 (6588397 / 2 ^ 23) := const_fin (n := 53) (s := false) (m := 7074237412016128) (by decide +kernel) (by decide +kernel)
theorem piB_fin : Fin64 4495793288086814720 (1328173 / 2 ^ 45) := const_fin (n := 77) (s := false) (m := 5704459598430208) (by decide +kernel) (by decide +kernel)
theorem piC_fin : Fin64 4388835458085048688 (427063790847255 / 2 ^ 97) := const_fin (n := 101) (s := false) (m := 6833020653556080) (by decide +kernel) (by decide +kernel)
theorem round_in {n : Nat} (hn : n ≤ 16) : ∃ yj v, ((n % 2 = 0 ∧ yj = floatOfInt .f64 (n : Int)) ∨ (n % 2 = 1 ∧ double.add (floatOfInt .f64 (n : Int)) 4607182418800017408 = some yj)) ∧
    Fin64 yj v ∧ InR (v - ((n + n % 2 : Nat) : Rat)) (((n + n % 2 : Nat) : Rat) / 2 ^ 51 + 1 / 2 ^ 149) := by
  have n0 : (0 : Rat) ≤ (n : Rat) := Rat.natCast_nonneg
  have n1 : (n : Rat) ≤ 16 := by
    have : (n : Rat) ≤ ((16 : Nat) : Rat) := Rat.natCast_le_natCast.2 hn
    exact this
  obtain ⟨v, f, e⟩ := ofInt_in (n := (n : Int)) (B := (n : Rat)) (by rw [Rat.intCast_natCast]; unfold InR; constructor <;> grind) (by grind)
  rw [Rat.intCast_natCast] at e
  by_cases h : n % 2 = 0
  · refine ⟨_, v, Or.inl ⟨h, rfl⟩, f, ?_⟩
    rw [h, Nat.add_zero]
    refine inR_mono e ?_
    grind
  · have h1 : n % 2 = 1 := by omega
    have p1 : (1 : Rat) ≤ (n : Rat) := by
      have : ((1 : Nat) : Rat) ≤ (n : Rat) := Rat.natCast_le_natCast.2 (by omega)
      exact this
    obtain ⟨y, yv, y1, y2, y3⟩ := add_in (B := (n : Rat) + 2) f one_fin (by unfold InR at *; constructor <;> grind) (by grind)
    refine ⟨y, yv, Or.inr ⟨h1, y1⟩, y2, ?_⟩
    rw [h1, Rat.natCast_add, show ((1 : Nat) : Rat) = 1 from rfl]
    generalize (n : Rat) = N at *
    unfold InR at *
    constructor <;> grind
theorem mul_chain {yj cw : Nat} {y J Y c : Rat} (f : Fin64 yj y) (h : InR (y - J) (J / 2 ^ 51 + 1 / 2 ^ 149)) (fc : Fin64 cw c) (c0 : InR c 1) (J0 : 0 ≤ J) (J1 : J ≤ 16) (Y0 : 1 / 2 ^ 22 ≤ Y) (Y1 : Y ≤ 63 / 5) :
    ∃ a v, double.mul yj cw = some a ∧ Fin64 a v ∧ InR (v - J * c) ((J + Y) / 2 ^ 50) := by
  have hy : InR y (J + Y) := by unfold InR at *; constructor <;> grind
  obtain ⟨a, v, a1, a2, a3⟩ := mul_in f fc (inR_mul hy c0) (by grind)
  refine ⟨a, v, a1, a2, ?_⟩
  have := inR_add (inR_mul h c0) a3
  rw [show (y - J) * c + (v - y * c) = v - J * c by grind] at this
  refine inR_mono this ?_
  grind
theorem sub_chain {x a : Nat} {u v U V G e : Rat} (fx : Fin64 x u) (fa : Fin64 a v) (hu : InR (u - U) e) (hv : InR (v - V) (G / 2 ^ 50)) (hb : InR (U - V) (3 * G)) (he : e ≤ G / 2 ^ 40) (G0 : 1 / 2 ^ 22 ≤ G) (G1 : G ≤ 100) :
    ∃ r z, double.sub x a = some r ∧ Fin64 r z ∧ InR (z - (U - V)) (e + G / 2 ^ 49) := by
  obtain ⟨r, z, r1, r2, r3⟩ := sub_in (B := 4 * G) fx fa (by unfold InR at *; constructor <;> grind) (by grind)
  exact ⟨r, z, r1, r2, by unfold InR at *; constructor <;> grind⟩
theorem reduce_val {y0 : Nat} {Y : Rat} (fy : Fin64 y0 Y) (Y0 : 1 / 2 ^ 22 ≤ Y) (Y1 : Y ≤ 63 / 5) :
    ∃ n yj z v, Reduced y0 n yj z ∧ Fin64 z v ∧ n ≤ 16 ∧
      ((n = 0 ∧ Y ≤ 79 / 100 ∧ InR (v - Y) (Y / 2 ^ 39)) ∨ (n ≠ 0 ∧ 1 / 2 ≤ Y ∧ InR (Y - ((n + n % 2 : Nat) : Rat) * quarter) (79 / 100) ∧ InR (v - (Y - ((n + n % 2 : Nat) : Rat) * quarter)) (1 / 2 ^ 39))) := by
  obtain ⟨t, tv, t1, t2, t3⟩ := mul_in (B := 2 * Y) fy four_fin (by unfold InR; constructor <;> grind) (by grind)
  obtain ⟨n, n1, n2, n3⟩ := toInt_val t2 (by unfold InR at t3; grind) (by unfold InR at t3; grind)
  have hn : n ≤ 16 := by
    have : (n : Rat) < ((17 : Nat) : Rat) := by
      rw [show ((17 : Nat) : Rat) = 17 from rfl]; unfold InR at t3; grind
    have := Rat.natCast_lt_natCast.1 this
    omega
  obtain ⟨yj, yv, hyj, fyj, ey⟩ := round_in hn
  have hJ : ((n + n % 2 : Nat) : Rat) - 1 ≤ tv ∧ tv ≤ ((n + n % 2 : Nat) : Rat) + 1 := by
    by_cases h : n % 2 = 0
    · rw [h, Nat.add_zero]; constructor <;> grind
    · rw [show n % 2 = 1 by omega, Rat.natCast_add, show ((1 : Nat) : Rat) = 1 from rfl]; constructor <;> grind
  have hJz : n = 0 ∨ (n ≠ 0 ∧ (2 : Rat) ≤ ((n + n % 2 : Nat) : Rat) ∧ (1 : Rat) ≤ tv) := by
    by_cases h : n = 0
    · exact Or.inl h
    · refine Or.inr ⟨h, ?_, ?_⟩
      · have : ((2 : Nat) : Rat) ≤ ((n + n % 2 : Nat) : Rat) := Rat.natCast_le_natCast.2 (by omega)
        exact this
      · have : ((1 : Nat) : Rat) ≤ (n : Rat) := Rat.natCast_le_natCast.2 (by omega)
        rw [show ((1 : Nat) : Rat) = 1 from rfl] at this
        grind
  have hJz' : n = 0 → ((n + n % 2 : Nat) : Rat) = 0 := by rintro rfl; rfl
  have J0 : (0 : Rat) ≤ ((n + n % 2 : Nat) : Rat) := Rat.natCast_nonneg
  have J1 : ((n + n % 2 : Nat) : Rat) ≤ 16 := by
    have : ((n + n % 2 : Nat) : Rat) ≤ ((16 : Nat) : Rat) := Rat.natCast_le_natCast.2 (by omega)
    exact this
  generalize hJd : ((n + n % 2 : Nat) : Rat) = J at *
  have G0 : 1 / 2 ^ 22 ≤ J + Y := by clear t3 hJz ey hJ; grind
  have G1 : J + Y ≤ 100 := by clear t3 hJz ey hJ; grind
  obtain ⟨a1, a1v, p1, f1, d1⟩ := mul_chain fyj ey piA_fin (by unfold InR; decide +kernel) J0 J1 Y0 Y1
  obtain ⟨b1, b1v, p2, f2, d2⟩ := sub_chain (U := Y) (e := 0) fy f1 (by clear t3 hJz ey hJ d1; unfold InR; constructor <;> grind) d1 (by clear t3 hJz ey hJ d1; unfold InR; constructor <;> grind) (by clear t3 hJz ey hJ d1; grind) G0 G1
  obtain ⟨a2, a2v, p3, f3, d3⟩ := mul_chain fyj ey piB_fin (by unfold InR; decide +kernel) J0 J1 Y0 Y1
  obtain ⟨b2, b2v, p4, f4, d4⟩ := sub_chain f2 f3 d2 d3 (by clear t3 hJz ey hJ d1 d2 d3; unfold InR; constructor <;> grind) (by clear t3 hJz ey hJ d1 d2 d3; grind) G0 G1
  obtain ⟨a3, a3v, p5, f5, d5⟩ := mul_chain fyj ey piC_fin (by unfold InR; decide +kernel) J0 J1 Y0 Y1
  obtain ⟨z, zv, p6, f6, d6⟩ := sub_chain f4 f5 d4 d5 (by clear t3 hJz ey hJ d1 d2 d3 d4 d5; unfold InR; constructor <;> grind) (by clear t3 hJz ey hJ d1 d2 d3 d4 d5; grind) G0 G1
  clear d1 d2 d3 d4 d5 ey
  refine ⟨n, yj, z, zv, ⟨t, a1, b1, a2, b2, a3, t1, n1, hyj, p1, p2, p3, p4, p5, p6⟩, f6, hn, ?_⟩
  rcases hJz with h | ⟨h, h2, h3⟩
  · refine Or.inl ⟨h, ?_, ?_⟩
    · have := hJz' h
      subst h
      have n3' : tv < 1 := by rw [show ((0 : Nat) : Rat) = 0 from rfl] at n3; grind
      unfold InR at t3; grind
    · rw [hJz' h] at d6
      unfold InR at *; constructor <;> grind
  · refine Or.inr ⟨h, ?_, ?_, ?_⟩
    · unfold InR at t3; grind
    · unfold InR quarter at *; constructor <;> grind
    · unfold InR quarter at *; constructor <;> grind
/-- The words of the sine's end, by the eighth. -/
def SinEnd (z zz f : Nat) : Prop :=
  ∃ q r p, double.mul z zz = some q ∧ Horner 4460209587652500685 13716528389658582877 4523617212962785441 13774824197404483331 4575957461383575504 13818544856648471880 zz r ∧ double.mul q r = some p ∧ double.add z p = some f
def CosEnd (zz f : Nat) : Prop :=
  ∃ h d q r p, double.mul 4602678819172646912 zz = some h ∧ double.sub 4607182418800017408 h = some d ∧ double.mul zz zz = some q ∧ Horner 13666448263388469915 4477121864728985349 13732177093698800582 4537941361668146421 13787419979223748497 4586165620538955083 zz r ∧ double.mul q r = some p ∧ double.add d p = some f
def SinRun (y0 n f : Nat) : Prop :=
  ∃ yj z zz, Reduced y0 n yj z ∧ double.mul z z = some zz ∧ (((n + n % 2) / 2 % 2 = 0 ∧ SinEnd z zz f) ∨ ((n + n % 2) / 2 % 2 = 1 ∧ CosEnd zz f))
def signN (n : Nat) (v : Rat) : Rat := if (n + n % 2) / 2 % 4 < 2 then v else -v
theorem square_in {z : Nat} {v y : Rat} (f : Fin64 z v) (h : InR (v - y) (1 / 2 ^ 39)) (hy : InR y (79 / 100)) :
    ∃ zz u, double.mul z z = some zz ∧ Fin64 zz u ∧ InR (u - y * y) (1 / 2 ^ 38) ∧ InR (y * y) (63 / 100) := by
  have vb := near_in_add h hy
  obtain ⟨zz, u, a, b, c⟩ := mul_in (B := 1) f f (inR_mono (inR_mul vb vb) (by decide +kernel)) (by decide +kernel)
  refine ⟨zz, u, a, b, ?_, inR_mono (inR_mul hy hy) (by decide +kernel)⟩
  have := inR_add (mul_near h h hy hy) c
  rw [show v * v - y * y + (u - v * v) = u - y * y by grind] at this
  exact inR_mono this (by decide +kernel)
theorem sin_val {y0 : Nat} {Y : Rat} (fy : Fin64 y0 Y) (Y0 : 1 / 2 ^ 22 ≤ Y) (Y1 : Y ≤ 63 / 5) :
    ∃ n f v, SinRun y0 n f ∧ n ≤ 16 ∧ Fin64 f v ∧ InR (signN n v - Y * evalP polyT (Y * Y)) (Y / 2 ^ 33) ∧ InR v (5 * Y) := by
  obtain ⟨n, yj, z, v, hr, fz, hn, hc⟩ := reduce_val fy Y0 Y1
  rcases hc with ⟨h, y1, e1⟩ | ⟨h, y1, e1, e2⟩
  · subst h
    have hy : InR Y (79 / 100) := by unfold InR; constructor <;> grind
    obtain ⟨zz, u, s1, s2, s3, s4⟩ := square_in fz (inR_mono e1 (by grind)) hy
    obtain ⟨q, r, p, s, sv, g1, g2, g3, g4, g5, g6⟩ := sin_end (k := Y) (by grind) (by grind) fz e1 (by unfold InR; constructor <;> grind) s2 s3 s4
    have vb : InR sv (5 * Y) := by
      have a := near_in_add g6 (inR_mul (show InR Y Y by unfold InR; constructor <;> grind) (inR_mono (evalP_in sinC s4) (show topP sinC (63 / 100) ≤ 2 by decide +kernel)))
      exact inR_mono a (by grind)
    refine ⟨0, s, sv, ⟨yj, z, zz, hr, s1, Or.inl ⟨rfl, q, r, p, g1, g2, g3, g4⟩⟩, by omega, g5, ?_, vb⟩
    have nn := none_near s4
    have nm : InR (Y * (evalP polyT (Y * Y) - evalP sinC (Y * Y))) (Y * (1 / 2 ^ 38)) := inR_mul (by unfold InR; constructor <;> grind) nn
    show InR (sv - Y * evalP polyT (Y * Y)) (Y / 2 ^ 33)
    generalize evalP polyT (Y * Y) = T at *
    generalize evalP sinC (Y * Y) = C at *
    have : InR (sv - Y * C + -(Y * (T - C))) (Y / 2 ^ 35 + Y * (1 / 2 ^ 38)) := inR_add g6 (by unfold InR at nm ⊢; constructor <;> grind)
    rw [show sv - Y * C + -(Y * (T - C)) = sv - Y * T by grind] at this
    exact inR_mono this (by grind)
  · have hm : n + n % 2 = 2 * ((n + n % 2) / 2) := by omega
    obtain ⟨zz, u, s1, s2, s3, s4⟩ := square_in fz e2 e1
    have qn := quarter_near (m := (n + n % 2) / 2) (by omega) e1
    rw [← hm] at qn
    generalize hJ : ((n + n % 2 : Nat) : Rat) * quarter = J at *
    rw [show J + (Y - J) = Y by grind] at qn
    by_cases hp : (n + n % 2) / 2 % 2 = 0
    · obtain ⟨q, r, p, s, sv, g1, g2, g3, g4, g5, g6⟩ := sin_end (k := 1) (by decide +kernel) (by decide +kernel) fz e2 (inR_mono e1 (by decide +kernel)) s2 s3 s4
      have vb : InR sv (5 * Y) := by
        have a := near_in_add g6 (inR_mul e1 (inR_mono (evalP_in sinC s4) (show topP sinC (63 / 100) ≤ 2 by decide +kernel)))
        exact inR_mono a (by grind)
      refine ⟨n, s, sv, ⟨yj, z, zz, hr, s1, Or.inl ⟨hp, q, r, p, g1, g2, g3, g4⟩⟩, hn, g5, ?_, vb⟩
      rw [if_pos hp] at qn
      unfold signN
      generalize Y * evalP polyT (Y * Y) = T at *
      generalize (Y - J) * evalP sinC ((Y - J) * (Y - J)) = C at *
      by_cases hs : (n + n % 2) / 2 % 4 < 2
      · rw [if_pos hs] at qn ⊢
        unfold InR at *; constructor <;> grind
      · rw [if_neg hs] at qn ⊢
        unfold InR at *; constructor <;> grind
    · obtain ⟨hh, d, q, r, p, s, sv, g0, g1, g2, g3, g4, g5, g6, g7⟩ := cos_end s2 s3 s4
      have vb : InR sv (5 * Y) := by
        have a := near_in_add g7 (inR_mono (evalP_in cosC s4) (show topP cosC (63 / 100) ≤ 2 by decide +kernel))
        exact inR_mono a (by grind)
      refine ⟨n, s, sv, ⟨yj, z, zz, hr, s1, Or.inr ⟨by omega, hh, d, q, r, p, g0, g1, g2, g3, g4, g5⟩⟩, hn, g6, ?_, vb⟩
      rw [if_neg hp] at qn
      unfold signN
      generalize Y * evalP polyT (Y * Y) = T at *
      generalize evalP cosC ((Y - J) * (Y - J)) = C at *
      by_cases hs : (n + n % 2) / 2 % 4 < 2
      · rw [if_pos hs] at qn ⊢
        unfold InR at *; constructor <;> grind
      · rw [if_neg hs] at qn ⊢
        unfold InR at *; constructor <;> grind
end Go.Proofs.YtjmdknbbgmajoaaDoor
