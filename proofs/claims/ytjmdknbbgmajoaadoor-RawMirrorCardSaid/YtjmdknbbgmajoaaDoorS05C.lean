/- The law on Keys' cubic, out of what the program's own Keys and the examples answer. -/
import Derived.Test.YtjmdknbbgmajoaaDoorS05B
namespace Go.Proofs.YtjmdknbbgmajoaaDoor
open Go.RowKit Ieee


theorem and_low18 (t : Int) : bits .and .i64 t 262143 = t % 262144 := by
  show IntKind.i64.wrap (((BitVec.ofInt 64 t &&& BitVec.ofInt 64 262143).toNat : Nat) : Int) = _
  rw [BitVec.toNat_and, BitVec.toNat_ofInt, BitVec.toNat_ofInt]
  have e : ((262143 : Int) % ((2 ^ 64 : Nat) : Int)).toNat = 2 ^ 18 - 1 := by decide
  rw [e, Nat.and_two_pow_sub_one_eq_mod, IntKind.wrap_i64]
  have e2 : ((2 ^ 64 : Nat) : Int) = 18446744073709551616 := by decide
  rw [e2]
  omega
theorem abs_near {X v e : Rat} (h : InR (X - v) e) : InR (X.abs - v.abs) e := by
  unfold InR at *
  unfold Rat.abs
  split <;> split <;> constructor <;> grind
theorem rat_absI (a : Int) : ((absI a : Int) : Rat) = (a : Rat).abs := by
  unfold absI
  by_cases h : a < 0
  · have : (a : Rat) < 0 := by
      have : ((a : Int) : Rat) < ((0 : Int) : Rat) := Rat.intCast_lt_intCast.2 h
      exact this
    rw [if_pos h, Rat.abs_of_nonpos (Rat.le_of_lt this), Rat.intCast_neg]
  · rw [if_neg h, Rat.abs_of_nonneg (Rat.intCast_nonneg.2 (by omega))]
theorem abs_mul_pos {v d : Rat} (hd : 0 < d) : v.abs * d = (v * d).abs := by
  by_cases h : 0 ≤ v
  · rw [Rat.abs_of_nonneg h, Rat.abs_of_nonneg (Rat.mul_nonneg h (Rat.le_of_lt hd))]
  · have a := Rat.mul_pos (show 0 < -v by grind) hd
    rw [Rat.abs_of_nonpos (by grind), Rat.abs_of_nonpos (by grind)]
    grind
/-- Which polynomial it is. -/
theorem which_cubic {a d : Int} {X v : Rat} (d0 : 1 ≤ d) (d1 : d ≤ 262144) (h0 : -2 * d < a) (h1 : a < 2 * d) (hv : v * (d : Rat) = (a : Rat)) (hX : InR (X - v) (1 / 2 ^ 48)) :
    InR v.abs 2 ∧ InR (X.abs - v.abs) (1 / 2 ^ 47) ∧ (X.abs < 1 → InR ((keysF a d : Rat) - lowR v.abs * 1073741824) (1 / 2)) ∧ (1 ≤ X.abs → InR ((keysF a d : Rat) - highR v.abs * 1073741824) (1 / 2)) := by
  have hd : (0 : Rat) < (d : Rat) := Rat.intCast_pos.2 (by omega)
  have dq : (d : Rat) ≤ 262144 := by
    have : (d : Rat) ≤ ((262144 : Int) : Rat) := Rat.intCast_le_intCast.2 d1
    exact this
  have hx : v.abs * (d : Rat) = (absI a : Rat) := by rw [rat_absI, ← hv]; exact abs_mul_pos hd
  have v0 : 0 ≤ v.abs := Rat.abs_nonneg
  have ab : absI a ≤ 2 * d := by unfold absI; split <;> omega
  have hb : InR v.abs 2 := by
    refine cut_by (A := (d : Rat)) ?_ hd
    rw [hx]
    have c1 : ((absI a : Int) : Rat) ≤ ((2 * d : Int) : Rat) := Rat.intCast_le_intCast.2 ab
    rw [Rat.intCast_mul, show ((2 : Int) : Rat) = 2 from rfl] at c1
    have c0 : (0 : Rat) ≤ ((absI a : Int) : Rat) := Rat.intCast_nonneg.2 (absI0 a)
    unfold InR; constructor <;> grind
  have hA := abs_near hX
  obtain ⟨k1, k2⟩ := keysF_near d0 d1 h0 h1 hx hb
  refine ⟨hb, inR_mono hA (by decide +kernel), ?_, ?_⟩
  · intro hl
    by_cases g : absI a < d
    · exact k1 g
    · -- just at one both are nothing
      have ge : d ≤ absI a := by omega
      by_cases ge2 : absI a = d
      · have e1 : v.abs = 1 := by
          rw [ge2] at hx
          have : (v.abs - 1) * (d : Rat) = 0 := by grind
          rcases Rat.mul_eq_zero.1 this with h | h
          · grind
          · grind
        have := k2 ge
        rw [e1] at this ⊢
        rw [show highR 1 = lowR 1 by decide +kernel] at this
        exact this
      · exfalso
        have c1 : ((d + 1 : Int) : Rat) ≤ ((absI a : Int) : Rat) := Rat.intCast_le_intCast.2 (by omega)
        rw [Rat.intCast_add, show ((1 : Int) : Rat) = 1 from rfl, ← hx] at c1
        have : v.abs < 1 + 1 / 2 ^ 40 := by clear k1 k2 hb; unfold InR at hA; grind
        have p := Rat.mul_pos (show 0 < 1 + 1 / 2 ^ 40 - v.abs by grind) hd
        clear k1 k2 hb hA hX
        grind
  · intro hl
    by_cases g : d ≤ absI a
    · exact k2 g
    · exfalso
      have c1 : ((absI a : Int) : Rat) ≤ ((d - 1 : Int) : Rat) := Rat.intCast_le_intCast.2 (by omega)
      rw [Rat.intCast_sub, show ((1 : Int) : Rat) = 1 from rfl, ← hx] at c1
      have : 1 - 1 / 2 ^ 40 ≤ v.abs := by clear k1 k2 hb; unfold InR at hA; grind
      have p := Rat.mul_nonneg (show 0 ≤ v.abs - (1 - 1 / 2 ^ 40) by grind) (Rat.le_of_lt hd)
      clear k1 k2 hb hA hX
      grind
theorem of_RawKeys (p q : Int) (w : World) (hp : -9223372036854775808 ≤ p ∧ p ≤ 9223372036854775807) (_hq : -9223372036854775808 ≤ q ∧ q ≤ 9223372036854775807)
    (CL : Calls Tryd.prog 8 #[] w fun e w' => e = .returned (.bool true) ∧ Below w.heap.size w w')
    (CK : ∀ a b : Int, -9223372036854775808 ≤ a → a ≤ 9223372036854775807 → ∀ w : World, Calls Tryd.prog 16 #[.int .i64 a, .int .i64 b] w fun e w' => e = .returned (.int .i64 (keysF a b)) ∧ Below w.heap.size w w') :
    Calls Tryd.prog 5 #[.int .i64 p, .int .i64 q] w fun e w' => e = .returned (.bool true) ∧ Below w.heap.size w w' := by
  obtain ⟨p0, p1⟩ := hp
  clear _hq
  have C1 := CK p q p0 p1
  have C2 := refkeys_any p q p0 p1
  generalize keysF p q = k0 at *
  have AN := and_low18 q
  have x0 : 0 ≤ q % 262144 := by omega
  have x1 : q % 262144 ≤ 262143 := by omega
  generalize q % 262144 = x at *
  have m0 := Int.lt_tmod_of_pos p (show 0 < 2 * (1 + x) by omega)
  have m1 := Int.tmod_lt_of_pos p (show 0 < 2 * (1 + x) by omega)
  obtain ⟨a, ha⟩ : ∃ a, p.tmod (2 * (1 + x)) = a := ⟨_, rfl⟩
  rw [ha] at m0 m1
  obtain ⟨xw, X, v, f1, fx, hv, e1, _, _⟩ := frac_words (a := a) (d := 1 + x) (by omega) (by omega) (by omega) (by omega)
  obtain ⟨hb, e2, k1, k2⟩ := which_cubic (a := a) (d := 1 + x) (by omega) (by omega) (by omega) (by omega) hv e1
  have fa := abs_word fx
  have C3 := CK a (1 + x) (by omega) (by omega)
  have C4 := CK (-a) (1 + x) (by omega) (by omega)
  rw [keysF_neg] at C4
  clear CK
  have AB := abs_walk xw (double.div_lt f1)
  have oc := order_val fa one_fin
  obtain ⟨t1, t2, t3, u1, u2, s1, s2, V, l1, l2, l3, l4, l5, l6, l7, fV, eV⟩ := cubic_low fa e2 hb
  generalize keysF a (1 + x) = k at *
  have o1 := div_op f1
  have o2 := mul_op l1
  have o3 := mul_op l2
  have o4 := mul_op l3
  have o5 := mul_op l4
  have o6 := mul_op l5
  have o7 := sub_op l6
  have o8 := add_op l7
  by_cases g : X.abs < 1
  · obtain ⟨m, z, q1, q2, q3, q4⟩ := keys_close fV eV (inR_mono (lowR_in hb) (by decide +kernel)) (k1 g)
    have c1 : (FloatKind.f64.format.order (xw % 9223372036854775808) 4607182418800017408 == some .gt) = false := by
      show (double.order (xw % 9223372036854775808) 4607182418800017408 == some .gt) = false
      rw [oc, if_pos g]; rfl
    have c2 : (FloatKind.f64.format.order (xw % 9223372036854775808) 4607182418800017408 == some .eq) = false := by
      show (double.order (xw % 9223372036854775808) 4607182418800017408 == some .eq) = false
      rw [oc, if_pos g]; rfl
    have o9 := mul_op q1
    have o10 := sub_op q2
    have AZ := abs_walk z q3
    clear k1 k2 hb e2 e1 hv fx fa f1 oc l1 l2 l3 l4 l5 l6 l7 fV eV q1 q2 q3 g
    go_enter Tryd.func5, Tryd.ntmps5
    go_wp2_with (first
      | (go_at_call 8; (with_reducible refine CL.mono ?_); rintro e w1 ⟨rfl, b1⟩)
      | (go_at_call 16; (with_reducible refine (C1 _).mono ?_); rintro e w2 ⟨rfl, b2⟩)
      | (go_at_call 17; (with_reducible refine (C2 _).mono ?_); rintro e w3 ⟨rfl, b3⟩)
      | (go_at_call 18; (with_reducible refine (AB _).mono ?_); rintro e w4 ⟨rfl, rfl⟩)
      | (go_at_call 16; (with_reducible refine (C3 _).mono ?_); rintro e w5 ⟨rfl, b5⟩)
      | (go_at_call 16; (with_reducible refine (C4 _).mono ?_); rintro e w6 ⟨rfl, b6⟩)
      | (go_at_call 18; (with_reducible refine (AZ _).mono ?_); rintro e w7 ⟨rfl, rfl⟩))
    go_ret
    exact ⟨rfl, bt (bt (bt (bt b1 b2) b3) b5) b6⟩
  · have g' : 1 ≤ X.abs := by clear k1 k2; grind
    obtain ⟨r1, r2, r3, u1', u2', r4, r5, r6, r7, V', h1, h2, h3, h4, h5, h6, h7, h8, h9, fV', eV'⟩ := cubic_high fa e2 hb
    obtain rfl : u1' = u1 := Option.some.inj (h4.symm.trans l4)
    obtain rfl : u2' = u2 := Option.some.inj (h5.symm.trans l5)
    obtain ⟨m, z, q1, q2, q3, q4⟩ := keys_close fV' eV' (highR_in hb) (k2 g')
    have c0 : ((FloatKind.f64.format.order (xw % 9223372036854775808) 4607182418800017408 == some .gt) = true) ∨ ((FloatKind.f64.format.order (xw % 9223372036854775808) 4607182418800017408 == some .gt) = false ∧ (FloatKind.f64.format.order (xw % 9223372036854775808) 4607182418800017408 == some .eq) = true) := by
      show ((double.order (xw % 9223372036854775808) 4607182418800017408 == some .gt) = true) ∨ ((double.order (xw % 9223372036854775808) 4607182418800017408 == some .gt) = false ∧ (double.order (xw % 9223372036854775808) 4607182418800017408 == some .eq) = true)
      rw [oc, if_neg g]
      by_cases ge : X.abs = 1
      · rw [if_pos ge]; exact Or.inr ⟨rfl, rfl⟩
      · rw [if_neg ge]; exact Or.inl rfl
    have n1 := mul_op h1
    have n2 := mul_op h2
    have n3 := mul_op h3
    have n6 := add_op h6
    have n7 := mul_op h7
    have n8 := sub_op h8
    have n9 := add_op h9
    have o9 := mul_op q1
    have o10 := sub_op q2
    have AZ := abs_walk z q3
    clear k1 k2 hb e2 e1 hv fx fa f1 oc l1 l2 l3 l4 l5 l6 l7 fV eV q1 q2 q3 g g' h1 h2 h3 h4 h5 h6 h7 h8 h9 fV' eV'
    rcases c0 with c1 | ⟨c1, c2⟩
    all_goals
      go_enter Tryd.func5, Tryd.ntmps5
      go_wp2_with (first
        | (go_at_call 8; (with_reducible refine CL.mono ?_); rintro e w1 ⟨rfl, b1⟩)
        | (go_at_call 16; (with_reducible refine (C1 _).mono ?_); rintro e w2 ⟨rfl, b2⟩)
        | (go_at_call 17; (with_reducible refine (C2 _).mono ?_); rintro e w3 ⟨rfl, b3⟩)
        | (go_at_call 18; (with_reducible refine (AB _).mono ?_); rintro e w4 ⟨rfl, rfl⟩)
        | (go_at_call 16; (with_reducible refine (C3 _).mono ?_); rintro e w5 ⟨rfl, b5⟩)
        | (go_at_call 16; (with_reducible refine (C4 _).mono ?_); rintro e w6 ⟨rfl, b6⟩)
        | (go_at_call 18; (with_reducible refine (AZ _).mono ?_); rintro e w7 ⟨rfl, rfl⟩))
      go_ret
      exact ⟨rfl, bt (bt (bt (bt b1 b2) b3) b5) b6⟩
end Go.Proofs.YtjmdknbbgmajoaaDoor
