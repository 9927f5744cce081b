/- The laws on how near the sinc is: the walks. -/
import Derived.Test.YthakcpjlnopcfaaDoorS04H
namespace Go.Proofs.YthakcpjlnopcfaaDoor
open Go.RowKit Ieee


theorem cell_lt {w : World} {b o : Nat} {v : Value} (h : w.cell? ⟨b, o, none⟩ = some v) : b < w.heap.size := by
  by_cases g : b < w.heap.size
  · exact g
  · have e : w.heap[b]? = none := Array.getElem?_eq_none (by omega)
    simp [World.cell?, e] at h
theorem tables_below {w w1 : World} (h : Tables w) (b : Below w.heap.size w w1) : Tables w1 := by
  obtain ⟨⟨c0, c1, c2, c3, c4, c5⟩, s0, s1, s2, s3, s4, s5⟩ := h
  have lc := cell_lt c0
  have ls := cell_lt s0
  exact ⟨⟨cb b lc c0, cb b lc c1, cb b lc c2, cb b lc c3, cb b lc c4, cb b lc c5⟩, cb b ls s0, cb b ls s1, cb b ls s2, cb b ls s3, cb b ls s4, cb b ls s5⟩
theorem law_SincNear (p q : Int) (w : World) (ht : Tables w) :
    Calls Tryd.prog 3 #[.int .i64 p, .int .i64 q] w fun e w' => e = .returned (.bool true) ∧ Below w.heap.size w w' := by
  have AN := and_low20 q
  have x0 : 0 ≤ q % 1048576 := by omega
  have x1 : q % 1048576 ≤ 1048575 := by omega
  generalize q % 1048576 = x at *
  have CF := fraction_walk p q x AN x0 x1
  have m0 := Int.lt_tmod_of_pos p (show 0 < 4 * (1 + x) + 1 by omega)
  have m1 := Int.tmod_lt_of_pos p (show 0 < 4 * (1 + x) + 1 by omega)
  generalize p.tmod (4 * (1 + x) + 1) = a at *
  have d0 : 1 ≤ 1 + x := by omega
  have d1 : 1 + x ≤ 1048576 := by omega
  generalize 1 + x = d at *
  obtain ⟨xw, X, v, f1, fx, hv, e1, _, hz⟩ := frac_words d0 d1 (show -(4 * d) ≤ a by omega) (show a ≤ 4 * d by omega)
  obtain ⟨r, R, T, fr, e2, e3, e4, hc⟩ := side_words (p := a) (q := d) (by omega) (by omega) (by omega) (by omega) hv fx e1 hz
  have CS := sinc_any a d (by omega) (by omega)
  have hS : sincF a d = seriesF a d := if_pos (by rcases mayF_at a d with ⟨g, _⟩ | ⟨_, g⟩ <;> first | exact g | omega)
  rw [hS] at CS
  clear hS
  generalize seriesF a d = S at *
  have hSb : InR ((S : Rat) / 1099511627776) (6 + 1 / 2 ^ 26) := near_in_add e4 e3
  obtain ⟨s, sv, s1, fs, e5⟩ := part_words fine_fin (by decide +kernel) (by decide +kernel) hSb (by decide +kernel)
  have e6 : InR (sv - R) (1 / 2 ^ 25) := by
    have := inR_add (inR_add e5 e4) (inR_neg e2)
    rw [show sv - (S : Rat) / 1099511627776 + ((S : Rat) / 1099511627776 - T) + -(R - T) = sv - R by grind] at this
    exact inR_mono this (by decide +kernel)
  obtain ⟨z, z1, z2, z3⟩ := close_words fs fr e6 (by decide +kernel) bound24_fin (by decide +kernel)
  have o1 := div_op f1
  have o2 := div_op s1
  have o3 := sub_op z1
  clear f1 s1 z1 e1 e2 e3 e4 e5 e6 hv hz hSb fx fr fs AN
  go_enter Tryd.func3, Tryd.ntmps3
  go_wp2_with (first
    | (go_at_call 5; (with_reducible refine (slives _).mono ?_); rintro e w1 ⟨rfl, b1⟩)
    | (go_at_call 6; (with_reducible refine (CF _).mono ?_); rintro e w2 ⟨rfl, b2⟩)
    | (go_at_call 7; (with_reducible refine (CS _).mono ?_); rintro e w3 ⟨rfl, b3⟩)
    | (go_at_call 9; (with_reducible refine (hc _ (tables_below ht (bt (bt b1 b2) b3))).mono ?_); rintro e w4 ⟨rfl, rfl⟩)
    | (go_at_call 8; (with_reducible refine (abs_walk z z2 _).mono ?_); rintro e w5 ⟨rfl, rfl⟩))
  go_ret
  exact ⟨rfl, bt (bt b1 b2) b3⟩
theorem law_SincLanczos (p q : Int) (w : World) (ht : Tables w) :
    Calls Tryd.prog 4 #[.int .i64 p, .int .i64 q] w fun e w' => e = .returned (.bool true) ∧ Below w.heap.size w w' := by
  have AN := and_low20 q
  have x0 : 0 ≤ q % 1048576 := by omega
  have x1 : q % 1048576 ≤ 1048575 := by omega
  generalize q % 1048576 = x at *
  have CF := fraction_walk p q x AN x0 x1
  have m0 := Int.lt_tmod_of_pos p (show 0 < 4 * (1 + x) + 1 by omega)
  have m1 := Int.tmod_lt_of_pos p (show 0 < 4 * (1 + x) + 1 by omega)
  generalize p.tmod (4 * (1 + x) + 1) = a at *
  have d0 : 1 ≤ 1 + x := by omega
  have d1 : 1 + x ≤ 1048576 := by omega
  generalize 1 + x = d at *
  obtain ⟨xw, X, v, f1, fx, hv, e1, eb, hz⟩ := frac_words d0 d1 (show -(4 * d) ≤ a by omega) (show a ≤ 4 * d by omega)
  have CS := lanczos_any a d (by omega) (by omega)
  have o1 := div_op f1
  by_cases g1 : 3 * d ≤ a
  · rw [show lanczosF a d = 0 from if_neg (by omega)] at CS
    have fz : floatOfInt .f64 0 = 0 := by decide
    have o2 := div_op (show double.div 0 4742290407621132288 = some 0 by decide)
    have cz : (FloatKind.f64.format.order 0 0 == some .eq) = true := by decide
    clear f1 fx hv e1 eb hz AN
    go_enter Tryd.func4, Tryd.ntmps4
    go_wp2_with (first
      | (go_at_call 5; (with_reducible refine (slives _).mono ?_); rintro e w1 ⟨rfl, b1⟩)
      | (go_at_call 6; (with_reducible refine (CF _).mono ?_); rintro e w2 ⟨rfl, b2⟩)
      | (go_at_call 10; (with_reducible refine (CS _).mono ?_); rintro e w3 ⟨rfl, b3⟩))
    go_ret
    exact ⟨rfl, bt (bt b1 b2) b3⟩
  by_cases g2 : a ≤ -3 * d
  · rw [show lanczosF a d = 0 from if_neg (by omega)] at CS
    have fz : floatOfInt .f64 0 = 0 := by decide
    have o2 := div_op (show double.div 0 4742290407621132288 = some 0 by decide)
    have cz : (FloatKind.f64.format.order 0 0 == some .eq) = true := by decide
    clear f1 fx hv e1 eb hz AN
    go_enter Tryd.func4, Tryd.ntmps4
    go_wp2_with (first
      | (go_at_call 5; (with_reducible refine (slives _).mono ?_); rintro e w1 ⟨rfl, b1⟩)
      | (go_at_call 6; (with_reducible refine (CF _).mono ?_); rintro e w2 ⟨rfl, b2⟩)
      | (go_at_call 10; (with_reducible refine (CS _).mono ?_); rintro e w3 ⟨rfl, b3⟩))
    go_ret
    exact ⟨rfl, bt (bt b1 b2) b3⟩
  have hm : mayF a d = true := by rcases mayF_at a d with ⟨g, _⟩ | ⟨_, g⟩ <;> first | exact g | omega
  rw [show lanczosF a d = shiftF (mulShiftF (seriesF a d) (seriesF a (3 * d)) 40) 10 from if_pos ⟨hm, by omega, by omega⟩] at CS
  clear hm
  obtain ⟨yw, Y, u, f2, fy, hu, e2, hz2⟩ := third_words fx hv e1 eb hz
  obtain ⟨r, R, T, fr, c1, c2, c3, hc⟩ := side_words (p := a) (q := d) (by omega) (by omega) (by omega) (by omega) hv fx e1 hz
  obtain ⟨r2, R2, T2, fr2, k1, k2, k3, hc2⟩ := side_words (p := a) (q := 3 * d) (by omega) (by omega) (by omega) (by omega) hu fy e2 hz2
  have hw := weight_near c3 k3 c2 k2
  generalize shiftF (mulShiftF (seriesF a d) (seriesF a (3 * d)) 40) 10 = W at *
  have hTT := inR_mul c2 k2
  have hSb : InR ((W : Rat) / 1073741824) (36 + 1 / 2 ^ 21) := inR_mono (near_in_add hw hTT) (by decide +kernel)
  obtain ⟨s, sv, s1, fs, e5⟩ := part_words coarse_fin (by decide +kernel) (by decide +kernel) hSb (by decide +kernel)
  have pr := mul_near c1 k1 c2 k2
  obtain ⟨m, mv, p1, fm, p2⟩ := mul_in (B := 40) fr fr2 (inR_mono (near_in_add pr hTT) (by decide +kernel)) (by decide +kernel)
  have e6 : InR (sv - mv) (3 / 2 ^ 22) := by
    have := inR_add (inR_add e5 hw) (inR_add (inR_neg pr) (inR_neg p2))
    rw [show sv - (W : Rat) / 1073741824 + ((W : Rat) / 1073741824 - T * T2) + (-(R * R2 - T * T2) + -(mv - R * R2)) = sv - mv by grind] at this
    exact inR_mono this (by decide +kernel)
  obtain ⟨z, z1, z2, z3⟩ := close_words fs fm e6 (by decide +kernel) bound20_fin (by decide +kernel)
  have o2 := div_op s1
  have o3 := sub_op z1
  have o4 := mul_op p1
  have o5 := div_op f2
  clear f1 s1 z1 e1 e2 e5 e6 hv hz hSb fx fr fs AN f2 fy hu hz2 c1 c2 c3 k1 k2 k3 fr2 hw hTT pr p1 p2 fm eb
  go_enter Tryd.func4, Tryd.ntmps4
  go_wp2_with (first
    | (go_at_call 5; (with_reducible refine (slives _).mono ?_); rintro e w1 ⟨rfl, b1⟩)
    | (go_at_call 6; (with_reducible refine (CF _).mono ?_); rintro e w2 ⟨rfl, b2⟩)
    | (go_at_call 10; (with_reducible refine (CS _).mono ?_); rintro e w3 ⟨rfl, b3⟩)
    | (go_at_call 9; (with_reducible refine (hc _ (tables_below ht (bt (bt b1 b2) b3))).mono ?_); rintro e w4 ⟨rfl, rfl⟩)
    | (go_at_call 9; (with_reducible refine (hc2 _ (tables_below ht (bt (bt b1 b2) b3))).mono ?_); rintro e w5 ⟨rfl, rfl⟩)
    | (go_at_call 8; (with_reducible refine (abs_walk z z2 _).mono ?_); rintro e w6 ⟨rfl, rfl⟩))
  go_ret
  exact ⟨rfl, bt (bt b1 b2) b3⟩
end Go.Proofs.YthakcpjlnopcfaaDoor
