/- What each source sample weighs: the law on sides turned about. -/
import Derived.Test.YtjmdknbbgmajoaaDoorS05I
namespace Go.Proofs.YtjmdknbbgmajoaaDoor
open Go.RowKit


theorem frac_mirror (n m i j : Int) : fracP n m (m - 1 - i) (n - 1 - j) = -fracP n m i j := by
  rw [frac_at, frac_at]
  have e1 : (n - 1 - j) * m = n * m - m - j * m := by rw [Int.sub_mul, Int.sub_mul, Int.one_mul]
  have e2 : (m - 1 - i) * n = n * m - n - i * n := by rw [Int.sub_mul, Int.sub_mul, Int.one_mul, Int.mul_comm m n]
  rw [e1, e2]; omega
theorem inW_mirror (f n m i j : Int) : inW f n m (m - 1 - i) (n - 1 - j) = true ↔ inW f n m i j = true := by
  by_cases hf : f = 0
  · subst hf
    rw [inW_box, inW_box]
    have e1 : (n - 1 - j) * m = n * m - m - j * m := by rw [Int.sub_mul, Int.sub_mul, Int.one_mul]
    have e2 : (m - 1 - i) * n = n * m - n - i * n := by rw [Int.sub_mul, Int.sub_mul, Int.one_mul, Int.mul_comm m n]
    have e3 : (n - 1 - j + 1) * m = n * m - j * m := by rw [show n - 1 - j + 1 = n - j by omega, Int.sub_mul]
    have e4 : (m - 1 - i + 1) * n = n * m - i * n := by rw [show m - 1 - i + 1 = m - i by omega, Int.sub_mul, Int.mul_comm m n]
    have e5 : (j + 1) * m = j * m + m := by rw [Int.add_mul, Int.one_mul]
    have e6 : (i + 1) * n = i * n + n := by rw [Int.add_mul, Int.one_mul]
    rw [e1, e2, e3, e4, e5, e6]
    omega
  · rw [inW_far hf, inW_far hf, frac_mirror]
    omega
theorem lanczos_mirror (p q : Int) : lanczosF (-p) q = lanczosF p q := by
  have hm : mayF (-p) q = mayF p q := by
    have a := mayF_at p q
    have b := mayF_at (-p) q
    rcases a with ⟨a1, a2⟩ | ⟨a1, a2⟩ <;> rcases b with ⟨b1, b2⟩ | ⟨b1, b2⟩ <;> first | (exfalso; omega) | rw [b1, a1]
  have hs : ∀ r, seriesF (-p) r = seriesF p r := fun r => by unfold seriesF; rw [abs_minus]
  have e : (-3 * q < -p ∧ -p < 3 * q) ↔ (-3 * q < p ∧ p < 3 * q) := by omega
  unfold lanczosF; rw [hm, hs, hs]; simp only [e]
theorem weightR_mirror (f n m i j : Int) : weightR f n m (m - 1 - i) (n - 1 - j) = weightR f n m i j := by
  unfold weightR
  by_cases hf : f = 0
  · rw [if_pos hf, if_pos hf]
    have e1 : (n - 1 - j) * m = n * m - m - j * m := by rw [Int.sub_mul, Int.sub_mul, Int.one_mul]
    have e2 : (m - 1 - i) * n = n * m - n - i * n := by rw [Int.sub_mul, Int.sub_mul, Int.one_mul, Int.mul_comm m n]
    have e3 : (n - 1 - j + 1) * m = n * m - j * m := by rw [show n - 1 - j + 1 = n - j by omega, Int.sub_mul]
    have e4 : (m - 1 - i + 1) * n = n * m - i * n := by rw [show m - 1 - i + 1 = m - i by omega, Int.sub_mul, Int.mul_comm m n]
    have e5 : (j + 1) * m = j * m + m := by rw [Int.add_mul, Int.one_mul]
    have e6 : (i + 1) * n = i * n + n := by rw [Int.add_mul, Int.one_mul]
    rw [e1, e2, e3, e4, e5, e6]
    congr 2
    omega
  · rw [if_neg hf, if_neg hf, frac_mirror, keysF_neg, lanczos_mirror]
theorem win_mirror {f n m i a : Int} {c : Nat} (h : IsWin f n m i a c) : IsWin f n m (m - 1 - i) (n - a - c) c := by
  obtain ⟨h0, h1, h2, h3⟩ := h
  have no : ∀ j, inW f n m i j = false → inW f n m (m - 1 - i) (n - 1 - j) = false := by
    intro j hj
    have := inW_mirror f n m i j
    cases hx : inW f n m (m - 1 - i) (n - 1 - j)
    · rfl
    · rw [this.1 hx] at hj; cases hj
  refine ⟨h0, ?_, ?_, ?_⟩
  · have := no _ h3
    rw [show n - 1 - (a + (c : Int)) = n - a - c - 1 by omega] at this
    exact this
  · intro k hk
    have := (inW_mirror f n m i (a + ((c - 1 - k : Nat) : Int))).2 (h2 (c - 1 - k) (by omega))
    rw [show n - 1 - (a + ((c - 1 - k : Nat) : Int)) = n - a - c + (k : Int) by omega] at this
    exact this
  · have := no _ h1
    rw [show n - 1 - (a - 1) = n - a - c + (c : Int) by omega] at this
    exact this
set_option maxHeartbeats 4000000 in
set_option maxRecDepth 1000000 in
theorem of_RawMirror (f a b c : Int) (hf : 0 ≤ f ∧ f ≤ 255) (ha : 0 ≤ a ∧ a ≤ 4294967295) (hb : 0 ≤ b ∧ b ≤ 4294967295) (hc : 0 ≤ c ∧ c ≤ 4294967295) (CR : RowC) (CK : KeysC) (w : World) (hkd : Kinds w) :
    Calls Tryd.prog 6 #[.int .u8 f, .int .u32 a, .int .u32 b, .int .u32 c] w fun e w' => e = .returned (.bool true) ∧ Below w.heap.size w w' := by
  have CL := rlives CR CK w hkd
  obtain ⟨n, n0, n1, CA⟩ := side_walk a ha.1 ha.2
  obtain ⟨m, m0, m1, CB⟩ := side_walk b hb.1 hb.2
  have CS := small_walk n m n0 n1 m0 m1
  obtain ⟨c0, c1⟩ := hc
  obtain ⟨f0, f1⟩ := hf
  clear ha hb CK
  by_cases hs : n / m ≤ 40
  · rw [decide_eq_true hs] at CS
    clear hs
    have hm0 : (m == 0) = false := beq_eq_false_iff_ne.2 (by omega)
    have i0 : 0 ≤ c % m := Int.emod_nonneg c (by omega)
    have i1 : c % m < m := Int.emod_lt_of_pos c (by omega)
    have k0 : 0 ≤ f % 3 := by omega
    have k1 : f % 3 ≤ 2 := by omega
    have C3 := CR (f % 3) n m (c % m) ⟨k0, k1, n0, n1, m0, m1, i0, i1⟩
    have C4 := CR (f % 3) n m (m - 1 - c % m) ⟨k0, k1, n0, n1, m0, m1, by omega, by omega⟩
    have BD := fun j (g : inW (f % 3) n m (c % m) j = true) => inW_bound (f := f % 3) (j := j) n0 n1 m0 m1 i0 i1 g
    have BDH := hide BD
    clear CR BD
    obtain ⟨i, hi⟩ : ∃ i, c % m = i := ⟨_, rfl⟩
    obtain ⟨g, hg⟩ : ∃ g, f % 3 = g := ⟨_, rfl⟩
    rw [hi] at i0 i1 C3 C4 BDH
    rw [hg] at C3 C4 k0 k1 BDH
    go_enter Tryd.func6, Tryd.ntmps6
    go_wp2_with (first
      | (go_at_call 8; (with_reducible refine CL.mono ?_); rintro e w1 ⟨rfl, b1⟩)
      | (go_at_call 15; (with_reducible refine (CA _).mono ?_); rintro e w2 ⟨rfl, b2⟩)
      | (go_at_call 15; (with_reducible refine (CB _).mono ?_); rintro e w3 ⟨rfl, b3⟩)
      | (go_at_call 10; (with_reducible refine (CS _).mono ?_); rintro e w4 ⟨rfl, b4⟩)
      | (go_at_call 11; (with_reducible refine (C3 _ (kinds_below hkd (by repeat (first | exact Below.refl _ _ | assumption | exact HB.out | (with_reducible refine bt ?_ (by assumption)) | with_reducible refine bd ?_ | with_reducible refine ba ?_ _)))).mono ?_); rintro e w5 ⟨x, k, v, hwin, rfl, ho1, b5⟩; obtain ⟨g1, p1, rfl, l1⟩ := owns_form ho1 hwin.1; have x0 := (BDH.out _ (hwin.2.2.1 0 hwin.1)); have x1 := (BDH.out _ (hwin.2.2.1 (k - 1) (by have := hwin.1; omega))); have kp := hwin.1)
      | (go_at_call 11; (with_reducible refine (C4 _ (kinds_below hkd (by repeat (first | exact Below.refl _ _ | assumption | exact HB.out | (with_reducible refine bt ?_ (by assumption)) | with_reducible refine bd ?_ | with_reducible refine ba ?_ _)))).mono ?_); rintro e w6 ⟨y, k', v', hwin', rfl, ho2, b6⟩; obtain ⟨e1, e2⟩ := win_one m0 hwin' (win_mirror hwin); subst e1; subst e2; obtain ⟨g2, p2, rfl, l2⟩ := owns_form ho2 hwin'.1; have z : (x + (k' : Int) - 1 != n - 1 - (n - x - (k' : Int))) = false := bne_eq_false_iff_eq.2 (by omega)))
    have O1 := owns_below ho1 b6
    have kb : (k' : Int) ≤ 524288 := by omega
    have BA : ∃ wx, Below w.heap.size w wx ∧ wx = w6 := ⟨w6, by repeat (first | exact Below.refl _ _ | (with_reducible refine bt ?_ (by assumption))), rfl⟩
    obtain ⟨_, BA, rfl⟩ := BA
    clear hwin hwin' b1 b2 b3 b4 b5 b6 CL CA CB CS C3 C4 l1 l2 ho1 BDH x0 x1 z
    generalize w4.heap.size = n4 at *
    generalize w5.heap.size = n5 at *
    go_loopw [73] (fun u wr => ∃ k : Nat, u = .int .i64 (k : Int) ∧ k ≤ k' ∧ Below w.heap.size w wr ∧ wr.ownsRow n4 2 1 (.slice (some ⟨g1, 0, none⟩) k' p1) k' (rowR g n m i x k') ∧ wr.ownsRow n5 2 1 (.slice (some ⟨g2, 0, none⟩) k' p2) k' (rowR g n m (m - 1 - i) (n - x - (k' : Int)) k')) (fun u _ => k' - (intOf u).toNat)
    case atStart => exact ⟨0, rfl, by omega, BA, O1, ho2⟩
    case round =>
      clear BA O1 ho2
      obtain ⟨k, rfl, hk, hb, o1, o2⟩ := hrel
      have HB := hide hb
      have HO1 := hide o1
      have HO2 := hide o2
      clear hb
      by_cases hlt : k < k'
      · have q1 := owns_cell o1 hlt
        have q2 := owns_cell o2 (show k' - 1 - k < k' by omega)
        have em : weightR g n m (m - 1 - i) (n - x - (k' : Int) + ((k' - 1 - k : Nat) : Int)) = weightR g n m i (x + (k : Int)) := by
          rw [← weightR_mirror g n m i (x + (k : Int))]
          congr 1
          omega
        rw [em] at q2
        clear em o1 o2
        generalize weightR g n m i (x + (k : Int)) = W at q1 q2
        obtain ⟨t, ht⟩ : ∃ t : Nat, k' - 1 - k = t := ⟨_, rfl⟩
        rw [ht] at q2
        have ht2 : t < k' := by omega
        have wr1 : IntKind.i64.wrap ((k' : Int) - 1) = (k' : Int) - 1 := by rw [IntKind.wrap_i64]; omega
        have wr2 : IntKind.i64.wrap ((k' : Int) - 1 - (k : Int)) = (t : Int) := by rw [IntKind.wrap_i64]; omega
        have hlt1 : (k : Int) < (k' : Int) := by omega
        have ht3 : (t : Int) < (k' : Int) := by omega
        go_wp2_with fail
        go_region_held3 (fun w' => w'.cell? ⟨g1, k, none⟩ = some (.int .i64 W) ∧ w'.cell? ⟨g2, t, none⟩ = some (.int .i64 W))
          (first | exact ⟨q1, q2⟩)
          (first | fail)
        go_wp2
        go_roundw
        case rel =>
          refine ⟨k + 1, by go_num, by omega, bt HB.out ?_, owns_below HO1.out ?_, owns_below HO2.out ?_⟩
          all_goals repeat (first | exact Below.refl _ _ | with_reducible refine bd ?_ | (with_reducible refine bt ?_ (by assumption)))
        case measure => simp [intOf]; omega
      · obtain rfl : k = k' := by omega
        go_wp2
        go_ret
        exact ⟨rfl, HB.out⟩
  · rw [decide_eq_false hs] at CS
    clear hs CR
    go_enter Tryd.func6, Tryd.ntmps6
    go_wp2_with (first
      | (go_at_call 8; (with_reducible refine CL.mono ?_); rintro e w1 ⟨rfl, b1⟩)
      | (go_at_call 15; (with_reducible refine (CA _).mono ?_); rintro e w2 ⟨rfl, b2⟩)
      | (go_at_call 15; (with_reducible refine (CB _).mono ?_); rintro e w3 ⟨rfl, b3⟩)
      | (go_at_call 10; (with_reducible refine (CS _).mono ?_); rintro e w4 ⟨rfl, b4⟩))
    go_ret
    refine ⟨rfl, ?_⟩
    repeat (first | exact Below.refl _ _ | (with_reducible refine bt ?_ (by assumption)))
end Go.Proofs.YtjmdknbbgmajoaaDoor
