/- What stands beyond the edge: the program's answer, and the document's. -/
import Derived.Test.YthhdclgpllnenaaS07A
import Derived.Test.YthhdclgpllnenaaF
import Derived.Test.YthhdclgpllnenaaJ
namespace Go.Proofs.Ythhdclgpllnenaa
open Go.RowKit


theorem modF_pos {a b : Int} (hb : 0 < b) : modF a b = a % b := by
  rw [modF_of (by omega)]; unfold floorR; rw [if_neg (by omega)]
theorem knownE_yes (p : Int) (p0 : 0 ≤ p) (p1 : p ≤ 2) (w : World) :
    Calls Try.prog 12 #[.int .i64 p] w fun e w' => e = .returned (.bool true) ∧ w = w' := by
  go_enter Try.func12, Try.ntmps12
  go_wp2
  go_ret
  first | exact ⟨rfl, rfl⟩ | exact ⟨ret_bool (decide_eq_true (by omega)), rfl⟩
theorem knownE_no (p : Int) (h : p < 0 ∨ 2 < p) (w : World) :
    Calls Try.prog 12 #[.int .i64 p] w fun e w' => e = .returned (.bool false) ∧ w = w' := by
  rcases h with h | h
  all_goals
    go_enter Try.func12, Try.ntmps12
    go_wp2
    go_ret
    first | exact ⟨rfl, rfl⟩ | exact ⟨ret_bool (decide_eq_false (by omega)), rfl⟩
theorem sideE_yes (n : Int) (n0 : 1 ≤ n) (n1 : n ≤ 65536) (w : World) :
    Calls Try.prog 13 #[.int .i64 n] w fun e w' => e = .returned (.bool true) ∧ w = w' := by
  go_enter Try.func13, Try.ntmps13
  go_wp2
  go_ret
  first | exact ⟨rfl, rfl⟩ | exact ⟨ret_bool (decide_eq_true (by omega)), rfl⟩
theorem sideE_no (n : Int) (h : n < 1 ∨ 65536 < n) (w : World) :
    Calls Try.prog 13 #[.int .i64 n] w fun e w' => e = .returned (.bool false) ∧ w = w' := by
  rcases h with h | h
  all_goals
    go_enter Try.func13, Try.ntmps13
    go_wp2
    go_ret
    first | exact ⟨rfl, rfl⟩ | exact ⟨ret_bool (decide_eq_false (by omega)), rfl⟩
theorem clamp_edge (j n : Int) (n0 : 1 ≤ n) : clampF j 0 (n - 1) = clampE j n := by
  unfold clampF clampE
  by_cases h0 : j < 0
  · rw [if_pos (Or.inl h0), if_pos h0]
  · rw [if_neg (by omega), if_neg h0]
    by_cases h1 : n ≤ j
    · rw [if_pos (by omega), if_pos h1]
    · rw [if_neg (by omega), if_neg h1]
theorem at_any (p j n : Int) (h0 : -9223372036854775808 ≤ j) (h1 : j ≤ 9223372036854775807) (w : World) :
    Calls Try.prog 8 #[.int .i64 p, .int .i64 j, .int .i64 n] w fun e w' => e = .returned (.int .i64 (atF p j n)) ∧ w = w' := by
  by_cases hp : 0 ≤ p ∧ p ≤ 2
  · obtain ⟨p0, p1⟩ := hp
    have K := fun w => knownE_yes p p0 p1 w
    by_cases hn : 1 ≤ n ∧ n ≤ 65536
    · obtain ⟨n0, n1⟩ := hn
      have S := fun w => sideE_yes n n0 n1 w
      by_cases e1 : p = 1
      · subst e1
        rw [atF_mirror n0 n1]
        unfold mirrorE
        have CM := fun w => fixmod_any j (2 * n) h0 h1 (by omega) (by omega) w
        rw [modF_pos (by omega)] at CM
        have t0 := Int.emod_nonneg j (show 2 * n ≠ 0 by omega)
        have t1 := Int.emod_lt_of_pos j (show 0 < 2 * n by omega)
        generalize j % (2 * n) = t at *
        by_cases ht : t < n
        · rw [if_pos ht]
          go_enter Try.func8, Try.ntmps8
          go_wp2_with (first
            | (go_at_call 12; (with_reducible refine (K _).mono ?_); rintro e w1 ⟨rfl, rfl⟩)
            | (go_at_call 13; (with_reducible refine (S _).mono ?_); rintro e w1 ⟨rfl, rfl⟩)
            | (go_at_call 14; (with_reducible refine (CM _).mono ?_); rintro e w1 ⟨rfl, rfl⟩))
          go_ret
          first | exact ⟨rfl, rfl⟩ | exact ⟨ret_i64 (by omega), rfl⟩
        rw [if_neg ht]
        go_enter Try.func8, Try.ntmps8
        go_wp2_with (first
          | (go_at_call 12; (with_reducible refine (K _).mono ?_); rintro e w1 ⟨rfl, rfl⟩)
          | (go_at_call 13; (with_reducible refine (S _).mono ?_); rintro e w1 ⟨rfl, rfl⟩)
          | (go_at_call 14; (with_reducible refine (CM _).mono ?_); rintro e w1 ⟨rfl, rfl⟩))
        go_ret
        exact ⟨rfl, rfl⟩
      by_cases e2 : p = 2
      · subst e2
        rw [atF_wrap n0 n1]
        have CM := fun w => fixmod_any j n h0 h1 (by omega) (by omega) w
        rw [modF_pos (by omega)] at CM
        generalize j % n = t at *
        clear e1
        go_enter Try.func8, Try.ntmps8
        go_wp2_with (first
          | (go_at_call 12; (with_reducible refine (K _).mono ?_); rintro e w1 ⟨rfl, rfl⟩)
          | (go_at_call 13; (with_reducible refine (S _).mono ?_); rintro e w1 ⟨rfl, rfl⟩)
          | (go_at_call 14; (with_reducible refine (CM _).mono ?_); rintro e w1 ⟨rfl, rfl⟩))
        go_ret
        exact ⟨rfl, rfl⟩
      · obtain rfl : p = 0 := by omega
        rw [atF_clamp n0 n1, ← clamp_edge j n n0]
        have CC := fun w => fixclamp_any j 0 (n - 1) w
        generalize clampF j 0 (n - 1) = t at *
        clear e1 e2
        go_enter Try.func8, Try.ntmps8
        go_wp2_with (first
          | (go_at_call 12; (with_reducible refine (K _).mono ?_); rintro e w1 ⟨rfl, rfl⟩)
          | (go_at_call 13; (with_reducible refine (S _).mono ?_); rintro e w1 ⟨rfl, rfl⟩)
          | (go_at_call 15; (with_reducible refine (CC _).mono ?_); rintro e w1 ⟨rfl, rfl⟩))
        go_ret
        exact ⟨rfl, rfl⟩
    · rw [atF_no (fun g => hn ⟨g.2.2.1, g.2.2.2⟩)]
      have S := fun w => sideE_no n (by omega) w
      clear hn
      go_enter Try.func8, Try.ntmps8
      go_wp2_with (first
        | (go_at_call 12; (with_reducible refine (K _).mono ?_); rintro e w1 ⟨rfl, rfl⟩)
        | (go_at_call 13; (with_reducible refine (S _).mono ?_); rintro e w1 ⟨rfl, rfl⟩))
      go_ret
      exact ⟨rfl, rfl⟩
  · rw [atF_no (fun g => hp ⟨g.1, g.2.1⟩)]
    have K := fun w => knownE_no p (by omega) w
    clear hp
    go_enter Try.func8, Try.ntmps8
    go_wp2_with (go_at_call 12; (with_reducible refine (K _).mono ?_); rintro e w1 ⟨rfl, rfl⟩)
    go_ret
    exact ⟨rfl, rfl⟩
/-! ### The document's -/
theorem refat_no (p j n : Int) (h : ¬ EdgeP p n) (w : World) :
    Calls Try.prog 9 #[.int .i64 p, .int .i64 j, .int .i64 n] w fun e w' => e = .returned (.int .i64 0) ∧ w = w' := by
  by_cases a1 : n < 1
  · clear h
    go_enter Try.func9, Try.ntmps9
    go_wp2
    go_ret
    exact ⟨rfl, rfl⟩
  by_cases a2 : 65536 < n
  · clear h
    go_enter Try.func9, Try.ntmps9
    go_wp2
    go_ret
    exact ⟨rfl, rfl⟩
  by_cases a3 : p < 0
  · clear h
    go_enter Try.func9, Try.ntmps9
    go_wp2
    go_ret
    exact ⟨rfl, rfl⟩
  have a4 : 2 < p := by
    by_cases g : 2 < p
    · exact g
    · exact absurd ⟨by omega, by omega, by omega, by omega⟩ h
  clear h
  go_enter Try.func9, Try.ntmps9
  go_wp2
  go_ret
  exact ⟨rfl, rfl⟩
theorem refat_in (p j n : Int) (h : EdgeP p n) (h0 : 0 ≤ j) (h1 : j < n) (w : World) :
    Calls Try.prog 9 #[.int .i64 p, .int .i64 j, .int .i64 n] w fun e w' => e = .returned (.int .i64 j) ∧ w = w' := by
  obtain ⟨p0, p1, n0, n1⟩ := h
  go_enter Try.func9, Try.ntmps9
  go_wp2
  go_ret
  exact ⟨rfl, rfl⟩
theorem refat_clamp (j n : Int) (n0 : 1 ≤ n) (n1 : n ≤ 65536) (h : j < 0 ∨ n ≤ j) (w : World) :
    Calls Try.prog 9 #[.int .i64 0, .int .i64 j, .int .i64 n] w fun e w' => e = .returned (.int .i64 (clampE j n)) ∧ w = w' := by
  rcases h with h | h
  · rw [show clampE j n = 0 from if_pos h]
    go_enter Try.func9, Try.ntmps9
    go_wp2
    go_ret
    exact ⟨rfl, rfl⟩
  · rw [show clampE j n = n - 1 from (if_neg (by omega)).trans (if_pos h)]
    go_enter Try.func9, Try.ntmps9
    go_wp2
    go_ret
    exact ⟨rfl, rfl⟩
theorem round_one {u m : Int} (h0 : -m < u) (h1 : u < m) : u % m = if u < 0 then u + m else u := by
  split
  · exact mod_of (q := -1) (by omega) (by omega) (by omega)
  · exact mod_of (q := 0) (by omega) (by omega) (by omega)
theorem refat_far (p j n v : Int) (hv : v = if p = 1 then mirrorE j n else j % n) (p0 : 1 ≤ p) (p1 : p ≤ 2) (n0 : 1 ≤ n) (n1 : n ≤ 65536) (h : j < 0 ∨ n ≤ j) (h0 : -9223372036854775808 ≤ j) (h1 : j ≤ 9223372036854775807) (w : World) :
    Calls Try.prog 9 #[.int .i64 p, .int .i64 j, .int .i64 n] w fun e w' => e = .returned (.int .i64 v) ∧ w = w' := by
  obtain ⟨s1, s2, s3⟩ := tmod_round (a := j) (m := 2 * n) (by omega)
  have HV := hide hv
  have t0 := Int.emod_nonneg j (show 2 * n ≠ 0 by omega)
  have t1 := Int.emod_lt_of_pos j (show 0 < 2 * n by omega)
  obtain ⟨t, ht⟩ : ∃ t, j % (2 * n) = t := ⟨_, rfl⟩
  rw [ht] at t0 t1 s1
  have HT := hide ht
  have HS := hide s1
  clear hv ht s1
  obtain ⟨u, hu⟩ : ∃ u, j.tmod (2 * n) = u := ⟨_, rfl⟩
  have e := HS.out
  rw [hu] at s2 s3 e
  have HE := hide e
  clear e HS
  have hz : (2 * n == 0) = false := beq_eq_false_iff_ne.2 (by omega)
  have hg : (decide (0 ≤ j) && decide (j < n)) = false := by
    rcases h with h | h
    · rw [decide_eq_false (by omega)]; rfl
    · rw [decide_eq_false (show ¬ j < n by omega), Bool.and_false]
  have main : ∀ w, Calls Try.prog 9 #[.int .i64 p, .int .i64 j, .int .i64 n] w fun e w' => e = .returned (.int .i64 v) ∧ w = w' := by
    intro w
    rcases h with h | h
    all_goals
      clear hg
      go_enter Try.func9, Try.ntmps9
      go_wp2
      go_loop [7] (fun r => ∃ y : Int, r = .int .i64 y ∧ -(2 * n) < y ∧ y < 2 * n ∧ Hid (y % (2 * n) = t)) (fun r => if intOf r < 0 then 1 else 0)
      case atStart => exact ⟨_, rfl, by omega, by omega, HE⟩
      case round =>
        obtain ⟨y, rfl, y0, y1, hy⟩ := hrel
        have ey := round_one y0 y1
        rw [hy.out] at ey
        by_cases hl : y < 0
        · rw [if_pos hl] at ey
          have EY := hide ey
          clear ey
          go_wp2
          go_round
          case rel => exact ⟨_, rfl, by omega, by omega, by rw [Int.add_emod_right]; exact hy.out⟩
          case measure =>
            have e9 := EY.out
            have g9 : ¬ y + 2 * n < 0 := by omega
            simp [intOf, hl, g9]
        · rw [if_neg hl] at ey
          subst ey
          by_cases hn : t < n
          · have ev : v = t := by
              rw [HV.out]; split
              · unfold mirrorE; rw [HT.out, if_pos hn]
              · rw [mod_twice n0, HT.out, if_pos hn]
            subst ev
            go_wp2
            go_ret
            exact ⟨rfl, rfl⟩
          · by_cases e2 : p = 2
            · subst e2
              have ev : v = t - n := by
                rw [HV.out, if_neg (by omega), mod_twice n0, HT.out, if_neg hn]
              subst ev
              go_wp2
              go_ret
              exact ⟨rfl, rfl⟩
            · have ev : v = 2 * n - 1 - t := by
                rw [HV.out, if_pos (by omega)]; unfold mirrorE; rw [HT.out, if_neg hn]
              subst ev
              obtain rfl : p = 1 := by omega
              go_wp2
              go_ret
              exact ⟨rfl, rfl⟩
  exact main w
theorem refat_any (p j n : Int) (h0 : -9223372036854775808 ≤ j) (h1 : j ≤ 9223372036854775807) (w : World) :
    Calls Try.prog 9 #[.int .i64 p, .int .i64 j, .int .i64 n] w fun e w' => e = .returned (.int .i64 (atF p j n)) ∧ w = w' := by
  by_cases h : EdgeP p n
  · by_cases hi : 0 ≤ j ∧ j < n
    · rw [atF_self h hi.1 hi.2]
      exact refat_in p j n h hi.1 hi.2 w
    · obtain ⟨p0, p1, n0, n1⟩ := h
      by_cases e0 : p = 0
      · subst e0
        rw [atF_clamp n0 n1]
        exact refat_clamp j n n0 n1 (by omega) w
      · refine refat_far p j n _ ?_ (by omega) p1 n0 n1 (by omega) h0 h1 w
        by_cases e1 : p = 1
        · subst e1
          rw [atF_mirror n0 n1, if_pos rfl]
        · obtain rfl : p = 2 := by omega
          rw [atF_wrap n0 n1, if_neg (by omega)]
  · rw [atF_no h]
    exact refat_no p j n h w
end Go.Proofs.Ythhdclgpllnenaa
