/- What package math's sine, and the laws' own sinc, answer, nearly. -/
import Derived.Test.YthakcpjlnopcfaaDoorS04E
namespace Go.Proofs.YthakcpjlnopcfaaDoor
open Go.RowKit Ieee


theorem zero_fin : Fin64 0 0 := ⟨false, 0, -1074, by decide, by rw [show ((0 : Nat) : Rat) = 0 from rfl, Rat.zero_mul]; rfl⟩
theorem limit_fin : ∃ L, Fin64 9218868437227405311 L ∧ 1024 ≤ L := by
  refine ⟨_, ⟨false, 9007199254740991, 971, by decide, rfl⟩, ?_⟩
  show 1024 ≤ ((9007199254740991 : Nat) : Rat) * pw2 971
  have a : pw2 0 ≤ pw2 971 := pw2_le (by omega)
  rw [pw2_zero] at a
  have b := Rat.mul_le_mul_of_nonneg_left a (show (0 : Rat) ≤ ((9007199254740991 : Nat) : Rat) from Rat.natCast_nonneg)
  have c : (1024 : Rat) ≤ ((9007199254740991 : Nat) : Rat) * 1 := by decide +kernel
  grind
theorem far_fin : Fin64 4737786807993761792 536870912 := const_fin (n := 23) (s := false) (m := 4503599627370496) (by decide +kernel) (by decide +kernel)
theorem end_lt {z zz f : Nat} (h : SinEnd z zz f) : f < 18446744073709551616 := by
  obtain ⟨q, r, p, -, -, -, h⟩ := h
  exact double.add_lt h
theorem end_lt' {zz f : Nat} (h : CosEnd zz f) : f < 18446744073709551616 := by
  obtain ⟨_, d, q, r, p, -, -, -, -, -, h⟩ := h
  exact double.add_lt h
theorem inR_neg {x B : Rat} (h : InR x B) : InR (-x) B := by unfold InR at *; constructor <;> grind
theorem flip_near {v Y A T B : Rat} (e : InR (v - A * T) B) (hA : A = -Y) : InR (-v - Y * T) B := by
  have := inR_neg e
  rw [show -(v - A * T) = -v - Y * T by rw [hA]; grind] at this
  exact this
theorem flip_near2 {v Y A T B : Rat} (e : InR (-v - A * T) B) (hA : A = -Y) : InR (v - Y * T) B := by
  have := inR_neg e
  rw [show -(-v - A * T) = v - Y * T by rw [hA]; grind] at this
  exact this
theorem cut_by {d A B : Rat} (h : InR (d * A) (B * A)) (hA : 0 < A) : InR d B := by
  unfold InR at *
  constructor
  · by_cases g : -B ≤ d
    · exact g
    · have := Rat.mul_pos (show 0 < -B - d by grind) hA
      grind
  · by_cases g : d ≤ B
    · exact g
    · have := Rat.mul_pos (show 0 < d - B by grind) hA
      grind
theorem cut_sel {d Y A B : Rat} {s : Bool} (hA : A = if s then -Y else Y) (h : InR (d * Y) (B * A)) (hp : 0 < A) : InR d B := by
  refine cut_by (A := A) ?_ hp
  rw [hA] at h ⊢
  cases s
  · exact h
  · have := inR_neg h
    rw [show -(d * Y) = d * -Y by grind] at this
    exact this
theorem abs_sel {Y A : Rat} {s : Bool} (hs : s = decide (Y < 0)) (hA : A = if s then -Y else Y) : Y.abs = A := by
  by_cases g : Y < 0
  · rw [hA, hs, decide_eq_true g, Rat.abs_of_nonpos (Rat.le_of_lt g)]; rfl
  · rw [hA, hs, decide_eq_false g, Rat.abs_of_nonneg (by grind)]; rfl
theorem sin_words {y0 : Nat} {Y A : Rat} {s : Bool} (hx : y0 < 18446744073709551616) (fy : Fin64 y0 Y) (hs : s = decide (Y < 0)) (hA : A = if s then -Y else Y) (A0 : 1 / 2 ^ 22 ≤ A) (A1 : A ≤ 63 / 5) :
    ∃ r v, Fin64 r v ∧ InR (v - Y * evalP polyT (Y * Y)) (A / 2 ^ 33) ∧ InR v (5 * A) ∧ ∀ w, Tables w → Calls Tryd.prog 20 #[.float .f64 y0] w fun e w' => e = .returned (.float .f64 r) ∧ w = w' := by
  obtain ⟨yp, hyp⟩ : ∃ yp, yp = if s then Op.negFloat .f64 y0 else y0 := ⟨_, rfl⟩
  have fyp : Fin64 yp A := by
    rw [hyp, hA]
    cases s
    · exact fy
    · exact (neg_word hx fy).1
  have hY : Y ≠ 0 := by
    rintro rfl
    have : A = 0 := by rw [hA]; split <;> grind
    grind
  have o0 := order_val fy zero_fin
  have o1 := order_val fy fy
  obtain ⟨L, fL, hL⟩ := limit_fin
  have o2 := order_val (abs_word fy) fL
  have o4 := order_val fyp far_fin
  have hab : Y.abs = A := abs_sel hs hA
  have c0 : (FloatKind.f64.format.order y0 0 == some .eq) = false := by
    show (double.order y0 0 == some .eq) = false
    rw [o0]
    by_cases g : Y < 0
    · rw [if_pos g]; rfl
    · rw [if_neg g, if_neg hY]; rfl
  have c1 : (FloatKind.f64.format.order y0 y0 != some .eq) = false := by
    show (double.order y0 y0 != some .eq) = false
    rw [o1, if_neg (by grind), if_pos rfl]; rfl
  have c2 : (FloatKind.f64.format.order (y0 % 9223372036854775808) 9218868437227405311 == some .gt) = false := by
    show (double.order (y0 % 9223372036854775808) 9218868437227405311 == some .gt) = false
    rw [o2, hab, if_pos (by grind)]; rfl
  have c3 : (FloatKind.f64.format.order y0 0 == some .lt) = s := by
    show (double.order y0 0 == some .lt) = s
    rw [o0, hs]
    by_cases g : Y < 0
    · rw [if_pos g, decide_eq_true g]; rfl
    · rw [if_neg g, if_neg hY, decide_eq_false g]; rfl
  have c4 : (FloatKind.f64.format.order yp 4737786807993761792 == some .gt) = false := by
    show (double.order yp 4737786807993761792 == some .gt) = false
    rw [o4, if_pos (by grind)]; rfl
  have c5 : (FloatKind.f64.format.order yp 4737786807993761792 == some .eq) = false := by
    show (double.order yp 4737786807993761792 == some .eq) = false
    rw [o4, if_pos (by grind)]; rfl
  obtain ⟨n, f, v, ⟨yj, z, zz, ⟨t, a1, b1, a2, b2, a3, t1, t2, hyj, p1, p2, p3, p4, p5, p6⟩, hzz, hend⟩, hn, ff, e, vb⟩ := sin_val fyp A0 A1
  have hf : f < 18446744073709551616 := by
    rcases hend with ⟨_, h⟩ | ⟨_, h⟩
    · exact end_lt h
    · exact end_lt' h
  refine ⟨if (s ^^ decide (2 ≤ (n + n % 2) / 2 % 4)) then Op.negFloat .f64 f else f, if (s ^^ decide (2 ≤ (n + n % 2) / 2 % 4)) then -v else v, ?_, ?_, ?_, ?_⟩
  · split
    · exact (neg_word hf ff).1
    · exact ff
  · unfold signN at e
    have hAA : A * A = Y * Y := by rw [hA]; cases s <;> simp <;> grind
    rw [hAA] at e
    generalize evalP polyT (Y * Y) = T at *
    clear hs hyp c3
    by_cases g : (n + n % 2) / 2 % 4 < 2
    · rw [if_pos g] at e
      rw [decide_eq_false (by omega : ¬ 2 ≤ (n + n % 2) / 2 % 4)]
      cases s
      · replace hA : A = Y := hA
        subst hA
        exact e
      · replace hA : A = -Y := hA
        exact flip_near e hA
    · rw [if_neg g] at e
      rw [decide_eq_true (by omega : 2 ≤ (n + n % 2) / 2 % 4)]
      cases s
      · replace hA : A = Y := hA
        subst hA
        exact e
      · replace hA : A = -Y := hA
        exact flip_near2 e hA
  · split
    · exact inR_neg vb
    · exact vb
  · intro w ht
    rcases hend with ⟨hp, q, r, p, g0, ⟨m1, s1, m2, s2, m3, s3, m4, s4, m5, g1, g2, g3, g4, g5, g6, g7, g8, g9, g10⟩, g11, g12⟩ | ⟨hp, h, d, q, r, p, g0, g1, g2, ⟨m1, s1, m2, s2, m3, s3, m4, s4, m5, g3, g4, g5, g6, g7, g8, g9, g10, g11, g12⟩, g13, g14⟩
    · exact sin_sin y0 yp n yj t a1 b1 a2 b2 a3 z zz q m1 s1 m2 s2 m3 s3 m4 s4 m5 r p f s hx c0 c1 c2 c3 hyp c4 c5 t2 hn hyj hp t1 p1 p2 p3 p4 p5 p6 hzz g0 g1 g2 g3 g4 g5 g6 g7 g8 g9 g10 g11 g12 w ht
    · exact sin_cos y0 yp n yj t a1 b1 a2 b2 a3 z zz h d q m1 s1 m2 s2 m3 s3 m4 s4 m5 r p f s hx c0 c1 c2 c3 hyp c4 c5 t2 hn hyj hp t1 p1 p2 p3 p4 p5 p6 hzz g0 g1 g2 g3 g4 g5 g6 g7 g8 g9 g10 g11 g12 g13 g14 w ht
theorem sin_call {y0 r : Nat} (h : ∀ w, Tables w → Calls Tryd.prog 20 #[.float .f64 y0] w fun e w' => e = .returned (.float .f64 r) ∧ w = w') (w : World) (ht : Tables w) :
    Calls Tryd.prog 15 #[.float .f64 y0] w fun e w' => e = .returned (.float .f64 r) ∧ w = w' := by
  have C := h w ht
  clear h
  go_enter Tryd.func15, Tryd.ntmps15
  go_wp2_with (go_at_call 20; (with_reducible refine C.mono ?_); rintro e w1 ⟨rfl, rfl⟩)
  go_ret
  exact ⟨rfl, rfl⟩
/-- The double nearest to the ratio of a circle to its width. -/
def piD : Rat := 884279719003555 / 2 ^ 48
theorem pi_fin : Fin64 4614256656552045848 piD := const_fin (n := 51) (s := false) (m := 7074237752028440) (by decide +kernel) (by decide +kernel)
/-- THE LAWS' OWN SINC. -/
theorem real_words {x : Nat} {X : Rat} (fx : Fin64 x X) (X0 : 1 / 2 ^ 23 ≤ X.abs) (X1 : X.abs ≤ 4 + 1 / 2 ^ 20) :
    ∃ r R Y, Fin64 r R ∧ InR (Y - piD * X) (1 / 2 ^ 47) ∧ InR (R - evalP polyT (Y * Y)) (1 / 2 ^ 32) ∧ InR (evalP polyT (Y * Y)) 6 ∧
      ∀ w, Tables w → Calls Tryd.prog 9 #[.float .f64 x] w fun e w' => e = .returned (.float .f64 r) ∧ w = w' := by
  have hXi : InR X X.abs := abs_inR X
  have hp : InR piD 4 := by unfold InR; decide +kernel
  obtain ⟨y0, Y, m1, fy, m2⟩ := mul_in (B := 4 * X.abs) pi_fin fx (inR_mul hp hXi) (by grind)
  obtain ⟨s, hs⟩ : ∃ s, s = decide (Y < 0) := ⟨_, rfl⟩
  obtain ⟨A, hA⟩ : ∃ A, A = if s then -Y else Y := ⟨_, rfl⟩
  have hAabs : A = Y.abs := (abs_sel hs hA).symm
  have hb : 1 / 2 ^ 22 ≤ A ∧ A ≤ 63 / 5 := by
    rw [hAabs]
    unfold piD InR at m2
    unfold Rat.abs at *
    clear hs hA hAabs hXi hp
    split at X0 <;> split at m2 <;> split <;> constructor <;> grind
  obtain ⟨A0, A1⟩ := hb
  have hy64 : y0 < 18446744073709551616 := double.mul_lt m1
  obtain ⟨f, v, ff, e, vb, hc⟩ := sin_words hy64 fy hs hA A0 A1
  have hY : Y ≠ 0 := by
    rintro rfl
    have : A = 0 := by rw [hA]; split <;> grind
    grind
  -- the quotient
  obtain ⟨Q, hQ⟩ : ∃ Q, Q * Y = v := ⟨v / Y, Rat.div_mul_cancel hY⟩
  generalize hT : evalP polyT (Y * Y) = T at *
  have hpos : 0 < A := by clear hc e vb; grind
  have hQT : InR (Q - T) (1 / 2 ^ 33) := by
    refine cut_sel hA ?_ hpos
    rw [show (Q - T) * Y = v - Y * T by rw [← hQ]; grind, show 1 / 2 ^ 33 * A = A / 2 ^ 33 by grind]
    exact e
  have hQ5 : InR Q 5 := by
    refine cut_sel hA ?_ hpos
    rw [hQ]
    exact vb
  obtain ⟨r, R, r1, fr, r2⟩ := div_in (B := 5) ff fy hY hQ hQ5 (by decide +kernel)
  have hX0 : X ≠ 0 := by
    rintro rfl
    rw [Rat.abs_zero] at X0
    grind
  have cz : (FloatKind.f64.format.order x 0 == some .eq) = false := by
    show (double.order x 0 == some .eq) = false
    rw [order_val fx zero_fin]
    by_cases g : X < 0
    · rw [if_pos g]; rfl
    · rw [if_neg g, if_neg hX0]; rfl
  refine ⟨r, R, Y, fr, inR_mono m2 (by clear hc e vb hQT hQ5 r2; grind), ?_, ?_, ?_⟩
  · have := inR_add r2 hQT
    rw [show R - Q + (Q - T) = R - T by grind, ← hT] at this
    exact inR_mono this (by decide +kernel)
  · have := inR_add hQ5 (inR_neg hQT)
    rw [show Q + -(Q - T) = T by grind, ← hT] at this
    exact inR_mono this (by decide +kernel)
  · intro w ht
    have h1 := mul_op m1
    have h2 := div_op r1
    have C := sin_call hc w ht
    clear m1 r1 hc
    go_enter Tryd.func9, Tryd.ntmps9
    go_wp2_with (go_at_call 15; (with_reducible refine C.mono ?_); rintro e w1 ⟨rfl, rfl⟩)
    go_ret
    exact ⟨rfl, rfl⟩
theorem real_zero (w : World) : Calls Tryd.prog 9 #[.float .f64 0] w fun e w' => e = .returned (.float .f64 4607182418800017408) ∧ w = w' := by
  have cz : (FloatKind.f64.format.order 0 0 == some .eq) = true := by decide
  go_enter Tryd.func9, Tryd.ntmps9
  go_wp2
  go_ret
  exact ⟨rfl, rfl⟩
end Go.Proofs.YthakcpjlnopcfaaDoor
