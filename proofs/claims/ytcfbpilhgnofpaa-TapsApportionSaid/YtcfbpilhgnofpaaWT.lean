/- The law on long products, divided by numbers and by powers of two. -/
import Derived.Test.YtcfbpilhgnofpaaWP
import Derived.Test.YtcfbpilhgnofpaaWC
import Derived.Test.YtcfbpilhgnofpaaWD
import Derived.Deep.DeepCutAuto
import Derived.Deep.RegionHeld3
namespace Go.Proofs.Ytcfbpilhgnofpaa
open Go.RowKit


theorem sign_mul (a b : Int) : a * b = signI (absI a * absI b) (decide (a < 0) != decide (b < 0)) := by
  obtain ⟨m1, m2, m3, m4⟩ := mul_signs a b
  unfold signI
  by_cases ha : a < 0 <;> by_cases hb : b < 0
  · rw [m1 ha hb, if_neg (by simp [ha, hb])]
  · rw [m2 ha (by omega), if_pos (by simp [ha, hb])]
  · rw [m3 (by omega) hb, if_pos (by simp [ha, hb])]
  · rw [m4 (by omega) (by omega), if_neg (by simp [ha, hb])]
theorem near_bool {a b d : Int} (hd : d ≠ 0) (s : Bool) (hs : ((decide (a < 0) != decide (b < 0)) != decide (d < 0)) = s) :
    nearQ (a * b) d = if s = true then -(absI a * absI b / absI d + if absI d < 2 * (absI a * absI b % absI d) then 1 else 0) else absI a * absI b / absI d + if absI d ≤ 2 * (absI a * absI b % absI d) then 1 else 0 := by
  subst hs
  rw [sign_mul a b]
  generalize absI a * absI b = P
  generalize (decide (a < 0) != decide (b < 0)) = t
  have hp : 0 < absI d := by unfold absI; split <;> omega
  unfold nearQ
  by_cases h : d < 0
  · have e : absI d = -d := absI_neg h
    rw [if_pos h, ← e]
    cases t
    · rw [if_pos (by simp [h])]; exact near_below hp
    · rw [if_neg (by simp [h])]
      show (2 * (- -P) + absI d) / (2 * absI d) = _
      rw [Int.neg_neg]; exact near_up hp
  · have e : absI d = d := absI_pos (by omega)
    rw [if_neg h, e]
    rw [e] at hp
    cases t
    · rw [if_neg (by simp [h])]; exact near_up hp
    · rw [if_pos (by simp [h])]; exact near_below hp
theorem nearest_to (x d v : Int) (s : Bool) (hv : holdI (if s = true then -(x / d + if d < 2 * (x % d) then 1 else 0) else x / d + if d ≤ 2 * (x % d) then 1 else 0) = v) (h0 : 0 ≤ x) (h1 : x < 170141183460469231731687303715884105728) (d0 : 0 < d) (d1 : d < 18446744073709551616) (w : World) :
    Calls Try.prog 55 #[.agg #[.int .u64 (hi x), .int .u64 (lo x)], .int .u64 d, .bool s] w fun e w' => e = .returned (.int .i64 v) ∧ Below w.heap.size w w' := by
  subst hv
  cases s
  · rw [if_neg (by decide)]; exact near_false x d h0 h1 d0 d1 w
  · rw [if_pos rfl]; exact near_true x d h0 h1 d0 d1 w
set_option maxHeartbeats 1000000 in
theorem refmuldiv_any (a b d : Int) (h0 : -9223372036854775808 ≤ a) (h1 : a ≤ 9223372036854775807) (k0 : -9223372036854775808 ≤ b) (k1 : b ≤ 9223372036854775807) (d0 : -9223372036854775808 ≤ d) (d1 : d ≤ 9223372036854775807) (w : World) :
    Calls Try.prog 33 #[.int .i64 a, .int .i64 b, .int .i64 d] w fun e w' => e = .returned (.int .i64 (divF (a * b) d)) ∧ Below w.heap.size w w' := by
  by_cases hz : d = 0
  · subst hz
    rw [divF_zero]
    go_enter Try.func33, Try.ntmps33
    go_wp2
    go_ret
    exact ⟨rfl, Below.refl _ _⟩
  have dz : (d == 0) = false := beq_eq_false_iff_ne.2 hz
  rw [divF_of hz]
  have NB := near_bool (a := a) (b := b) hz _ rfl
  have CA := refsize_any a h0 h1
  have CB := refsize_any b k0 k1
  have CS := refsize_any d d0 d1
  have a1 : absI a ≤ 9223372036854775808 := absI1 h0 (by omega)
  have b1 : absI b ≤ 9223372036854775808 := absI1 k0 (by omega)
  have hp : 0 < absI d := by unfold absI; split <;> omega
  have hq : absI d ≤ 9223372036854775808 := absI1 d0 (by omega)
  have CT := times_to (absI a) (absI b) _ rfl (absI0 a) (by omega) (absI0 b) (by omega)
  have pp := abs_mul_le h0 h1 k0 k1
  generalize nearQ (a * b) d = V at *
  generalize absI a * absI b = P at *
  generalize absI d = D at *
  have NB2 := hide NB
  clear NB
  obtain ⟨P0, P1⟩ := pp
  cases hta : decide (a < 0) <;> cases htb : decide (b < 0) <;> cases htd : decide (d < 0)
  all_goals
    have nb := NB2.out
    rw [hta, htb, htd] at nb
    clear NB2
    first | (change V = if false = true then _ else _ at nb; have CN := nearest_to P D (holdI V) false (by rw [nb]) P0 (by omega) hp (by omega)) | (change V = if true = true then _ else _ at nb; have CN := nearest_to P D (holdI V) true (by rw [nb]) P0 (by omega) hp (by omega))
    clear nb hz hp hq P0 P1 a1 b1
    go_enter Try.func33, Try.ntmps33
    go_wp2_with (first
      | (go_at_call 43; (with_reducible refine (CA _).mono ?_); rintro e w' ⟨rfl, rfl⟩)
      | (go_at_call 43; (with_reducible refine (CB _).mono ?_); rintro e w' ⟨rfl, rfl⟩)
      | (go_at_call 54; (with_reducible refine (CT _).mono ?_); rintro e w1 ⟨rfl, b1⟩))
    have n0 := new0L w1 (.int .u64 (hi P)) (.int .u64 (lo P)) 53
    have n1 := new1L w1 (.int .u64 (hi P)) (.int .u64 (lo P)) 53
    have n2 := new_ltL w1 (.cells #[.int .u64 (hi P), .int .u64 (lo P)] 53)
    go_region_held3 (fun w' => w'.cell? ⟨w1.heap.size, 0, none⟩ = some (.int .u64 (hi P)) ∧ w'.cell? ⟨w1.heap.size, 1, none⟩ = some (.int .u64 (lo P)))
      (first | exact ⟨n0, n1⟩ | exact ⟨y0, y1⟩)
      (first
        | (go_at_call 43; (with_reducible refine (CS _).mono ?_); rintro e w' ⟨rfl, rfl⟩)
        | (go_at_call 55; (with_reducible refine (CN _).mono ?_); rintro e w2 ⟨rfl, b2⟩; have y0 := cb b2 n2 n0; have y1 := cb b2 n2 n1))
    all_goals go_wp2
    all_goals go_ret
    all_goals refine ⟨rfl, ?_⟩
    all_goals (repeat (first | exact Below.refl _ _ | with_reducible refine ba ?_ _ | with_reducible refine bs ?_ (by omega) _ | with_reducible refine bd ?_ | (with_reducible refine bt ?_ (by assumption))))
end Go.Proofs.Ytcfbpilhgnofpaa
