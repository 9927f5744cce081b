/- The program's rounded quotient (fixed.Div). -/
import Derived.Test.YtjmdknbbgmajoaaDoorF
import Derived.Test.YtjmdknbbgmajoaaDoorD
namespace Go.Proofs.YtjmdknbbgmajoaaDoor
open Go.RowKit


theorem half_neg (r b : Int) (hb : b < 0) (b0 : -9223372036854775808 ≤ b) (r0 : b < r) (r1 : r ≤ 0) (t : Bool) (ht : decide (2 * r ≤ b) = t) (w : World) :
    Calls Tryd.prog 48 #[.int .i64 r, .int .i64 b] w fun e w' => e = .returned (.bool t) ∧ w = w' := by
  have T := hide ht
  clear ht
  go_enter Tryd.func48, Tryd.ntmps48
  go_wp2
  go_ret
  exact ⟨ret_bool ((decide_eq_decide.2 (by omega)).trans T.out), rfl⟩
theorem half_pos (r b : Int) (hb : 0 < b) (b0 : b ≤ 9223372036854775807) (r0 : 0 ≤ r) (r1 : r < b) (t : Bool) (ht : decide (b ≤ 2 * r) = t) (w : World) :
    Calls Tryd.prog 48 #[.int .i64 r, .int .i64 b] w fun e w' => e = .returned (.bool t) ∧ w = w' := by
  have T := hide ht
  clear ht
  have hb' : ¬ b < 0 := by omega
  go_enter Tryd.func48, Tryd.ntmps48
  go_wp2
  go_ret
  exact ⟨ret_bool ((decide_eq_decide.2 (by omega)).trans T.out), rfl⟩
theorem fixdiv_any (a b : Int) (h0 : -9223372036854775808 ≤ a) (h1 : a ≤ 9223372036854775807) (k0 : -9223372036854775808 ≤ b) (k1 : b ≤ 9223372036854775807) (w : World) :
    Calls Tryd.prog 33 #[.int .i64 a, .int .i64 b] w fun e w' => e = .returned (.int .i64 (divF a b)) ∧ w = w' := by
  have CF := fixfloor_any a b h0 h1 k0 k1
  have CM := fixmod_any a b h0 h1 k0 k1
  by_cases hb : b = 0
  · subst hb
    rw [show floorF a 0 = 0 from if_pos rfl] at CF
    rw [show modF a 0 = 0 from if_pos rfl] at CM
    rw [show divF a 0 = 0 from if_pos rfl]
    go_enter Tryd.func33, Tryd.ntmps33
    go_wp2_with (first
      | (go_at_call 27; (with_reducible refine (CF _).mono ?_); rintro e w' ⟨rfl, rfl⟩)
      | (go_at_call 47; (with_reducible refine (CM _).mono ?_); rintro e w' ⟨rfl, rfl⟩))
    go_ret
    exact ⟨rfl, rfl⟩
  rw [floorF_of hb] at CF
  rw [modF_of hb] at CM
  rw [divF_of hb]
  have I := floorR_in a b
  by_cases hr : floorR a b = 0
  · have e : nearQ a b = floorQ a b := by
      by_cases hn : b < 0
      · rw [near_neg hn, hr, if_neg (by omega), Int.add_zero]
      · rw [near_pos (by omega), hr, if_neg (by omega), Int.add_zero]
    rw [e]
    rw [hr] at CM
    clear e I hr
    go_enter Tryd.func33, Tryd.ntmps33
    go_wp2_with (first
      | (go_at_call 27; (with_reducible refine (CF _).mono ?_); rintro e w' ⟨rfl, rfl⟩)
      | (go_at_call 47; (with_reducible refine (CM _).mono ?_); rintro e w' ⟨rfl, rfl⟩))
    go_ret
    exact ⟨rfl, rfl⟩
  have Q := floorQ_mid h0 h1 hb hr
  rw [holdI_in (by omega) (by omega)] at CF
  have key : ∃ t : Bool, nearQ a b = floorQ a b + (if t = true then 1 else 0) ∧ (∀ w : World, Calls Tryd.prog 48 #[.int .i64 (floorR a b), .int .i64 b] w fun e w' => e = .returned (.bool t) ∧ w = w') := by
    by_cases hn : b < 0
    · have i := I.2 hn
      refine ⟨decide (2 * floorR a b ≤ b), ?_, fun w => half_neg _ b hn k0 i.1 i.2 _ rfl w⟩
      rw [near_neg hn]; simp only [decide_eq_true_eq]
    · have i := I.1 (by omega)
      refine ⟨decide (b ≤ 2 * floorR a b), ?_, fun w => half_pos _ b (by omega) k1 i.1 i.2 _ rfl w⟩
      rw [near_pos (by omega)]; simp only [decide_eq_true_eq]
  obtain ⟨t, et, CH⟩ := key
  have hr' : (floorR a b != 0) = true := by simp [hr]
  clear hr I
  rw [et]
  clear et
  generalize floorQ a b = q at *
  generalize floorR a b = r at *
  cases t
  · rw [if_neg (by decide), Int.add_zero, holdI_in (by omega) (by omega)]
    go_enter Tryd.func33, Tryd.ntmps33
    go_wp2_with (first
      | (go_at_call 27; (with_reducible refine (CF _).mono ?_); rintro e w' ⟨rfl, rfl⟩)
      | (go_at_call 47; (with_reducible refine (CM _).mono ?_); rintro e w' ⟨rfl, rfl⟩)
      | (go_at_call 48; (with_reducible refine (CH _).mono ?_); rintro e w' ⟨rfl, rfl⟩))
    go_ret
    exact ⟨rfl, rfl⟩
  · rw [if_pos rfl, holdI_in (by omega) (by omega)]
    go_enter Tryd.func33, Tryd.ntmps33
    go_wp2_with (first
      | (go_at_call 27; (with_reducible refine (CF _).mono ?_); rintro e w' ⟨rfl, rfl⟩)
      | (go_at_call 47; (with_reducible refine (CM _).mono ?_); rintro e w' ⟨rfl, rfl⟩)
      | (go_at_call 48; (with_reducible refine (CH _).mono ?_); rintro e w' ⟨rfl, rfl⟩))
    go_ret
    exact ⟨by first | rfl | exact ret_i64 (wrap_in' (by omega) (by omega)), rfl⟩
end Go.Proofs.YtjmdknbbgmajoaaDoor
