/- What stands beyond the edge: the program's answer, and the document's. -/
import Derived.Test.YthhdclgpllnenaaDoorS07A
import Derived.Test.YthhdclgpllnenaaDoorF
import Derived.Test.YthhdclgpllnenaaDoorJ
namespace Go.Proofs.YthhdclgpllnenaaDoor
open Go.RowKit


theorem modF_pos {a b : Int} (hb : 0 < b) : modF a b = a % b := by
  rw [modF_of (by omega)]; unfold floorR; rw [if_neg (by omega)]
theorem knownE_yes (p : Int) (p0 : 0 ≤ p) (p1 : p ≤ 2) (w : World) :
    Calls Tryd.prog 8 #[.int .i64 p] w fun e w' => e = .returned (.bool true) ∧ w = w' := by
  go_enter Tryd.func8, Tryd.ntmps8
  go_wp2
  go_ret
  first | exact ⟨rfl, rfl⟩ | exact ⟨ret_bool (decide_eq_true (by omega)), rfl⟩
theorem knownE_no (p : Int) (h : p < 0 ∨ 2 < p) (w : World) :
    Calls Tryd.prog 8 #[.int .i64 p] w fun e w' => e = .returned (.bool false) ∧ w = w' := by
  rcases h with h | h
  all_goals
    go_enter Tryd.func8, Tryd.ntmps8
    go_wp2
    go_ret
    first | exact ⟨rfl, rfl⟩ | exact ⟨ret_bool (decide_eq_false (by omega)), rfl⟩
theorem sideE_yes (n : Int) (n0 : 1 ≤ n) (n1 : n ≤ 65536) (w : World) :
    Calls Tryd.prog 9 #[.int .i64 n] w fun e w' => e = .returned (.bool true) ∧ w = w' := by
  go_enter Tryd.func9, Tryd.ntmps9
  go_wp2
  go_ret
  first | exact ⟨rfl, rfl⟩ | exact ⟨ret_bool (decide_eq_true (by omega)), rfl⟩
theorem sideE_no (n : Int) (h : n < 1 ∨ 65536 < n) (w : World) :
    Calls Tryd.prog 9 #[.int .i64 n] w fun e w' => e = .returned (.bool false) ∧ w = w' := by
  rcases h with h | h
  all_goals
    go_enter Tryd.func9, Tryd.ntmps9
    go_wp2
    go_ret
    first | exact ⟨rfl, rfl⟩ | exact ⟨ret_bool (decide_eq_false (by omega)), rfl⟩
theorem clamp_edge (j n : Int) (n0 : 1 ≤ n) : clampF j 0 (n - 1) = clampE j n := by
  unfold clampF clampE
  by_cases h0 : j < 0
  · rw [if_pos (Or.inl h0), if_pos h0]
  · rw [if_neg (by omega), if_neg h0]
    by_cases h1 : n ≤ j
    · rw [if_pos (by omega), if_pos h1]
    · rw [if_neg (by omega), if_neg h1]
theorem at_any (p j n : Int) (h0 : -9223372036854775808 ≤ j) (h1 : j ≤ 9223372036854775807) (w : World) :
    Calls Tryd.prog 7 #[.int .i64 p, .int .i64 j, .int .i64 n] w fun e w' => e = .returned (.int .i64 (atF p j n)) ∧ w = w' := by
  by_cases hp : 0 ≤ p ∧ p ≤ 2
  · obtain ⟨p0, p1⟩ := hp
    have K := fun w => knownE_yes p p0 p1 w
    by_cases hn : 1 ≤ n ∧ n ≤ 65536
    · obtain ⟨n0, n1⟩ := hn
      have S := fun w => sideE_yes n n0 n1 w
      by_cases e1 : p = 1
      · subst e1
        rw [atF_mirror n0 n1]
        unfold mirrorE
        have CM := fun w => fixmod_any j (2 * n) h0 h1 (by omega) (by omega) w
        rw [modF_pos (by omega)] at CM
        have t0 := Int.emod_nonneg j (show 2 * n ≠ 0 by omega)
        have t1 := Int.emod_lt_of_pos j (show 0 < 2 * n by omega)
        generalize j % (2 * n) = t at *
        by_cases ht : t < n
        · rw [if_pos ht]
          go_enter Tryd.func7, Tryd.ntmps7
          go_wp2_with (first
            | (go_at_call 8; (with_reducible refine (K _).mono ?_); rintro e w1 ⟨rfl, rfl⟩)
            | (go_at_call 9; (with_reducible refine (S _).mono ?_); rintro e w1 ⟨rfl, rfl⟩)
            | (go_at_call 10; (with_reducible refine (CM _).mono ?_); rintro e w1 ⟨rfl, rfl⟩))
          go_ret
          first | exact ⟨rfl, rfl⟩ | exact ⟨ret_i64 (by omega), rfl⟩
        rw [if_neg ht]
        go_enter Tryd.func7, Tryd.ntmps7
        go_wp2_with (first
          | (go_at_call 8; (with_reducible refine (K _).mono ?_); rintro e w1 ⟨rfl, rfl⟩)
          | (go_at_call 9; (with_reducible refine (S _).mono ?_); rintro e w1 ⟨rfl, rfl⟩)
          | (go_at_call 10; (with_reducible refine (CM _).mono ?_); rintro e w1 ⟨rfl, rfl⟩))
        go_ret
        exact ⟨rfl, rfl⟩
      by_cases e2 : p = 2
      · subst e2
        rw [atF_wrap n0 n1]
        have CM := fun w => fixmod_any j n h0 h1 (by omega) (by omega) w
        rw [modF_pos (by omega)] at CM
        generalize j % n = t at *
        clear e1
        go_enter Tryd.func7, Tryd.ntmps7
        go_wp2_with (first
          | (go_at_call 8; (with_reducible refine (K _).mono ?_); rintro e w1 ⟨rfl, rfl⟩)
          | (go_at_call 9; (with_reducible refine (S _).mono ?_); rintro e w1 ⟨rfl, rfl⟩)
          | (go_at_call 10; (with_reducible refine (CM _).mono ?_); rintro e w1 ⟨rfl, rfl⟩))
        go_ret
        exact ⟨rfl, rfl⟩
      · obtain rfl : p = 0 := by omega
        rw [atF_clamp n0 n1, ← clamp_edge j n n0]
        have CC := fun w => fixclamp_any j 0 (n - 1) w
        generalize clampF j 0 (n - 1) = t at *
        clear e1 e2
        go_enter Tryd.func7, Tryd.ntmps7
        go_wp2_with (first
          | (go_at_call 8; (with_reducible refine (K _).mono ?_); rintro e w1 ⟨rfl, rfl⟩)
          | (go_at_call 9; (with_reducible refine (S _).mono ?_); rintro e w1 ⟨rfl, rfl⟩)
          | (go_at_call 11; (with_reducible refine (CC _).mono ?_); rintro e w1 ⟨rfl, rfl⟩))
        go_ret
        exact ⟨rfl, rfl⟩
    · rw [atF_no (fun g => hn ⟨g.2.2.1, g.2.2.2⟩)]
      have S := fun w => sideE_no n (by omega) w
      clear hn
      go_enter Tryd.func7, Tryd.ntmps7
      go_wp2_with (first
        | (go_at_call 8; (with_reducible refine (K _).mono ?_); rintro e w1 ⟨rfl, rfl⟩)
        | (go_at_call 9; (with_reducible refine (S _).mono ?_); rintro e w1 ⟨rfl, rfl⟩))
      go_ret
      exact ⟨rfl, rfl⟩
  · rw [atF_no (fun g => hp ⟨g.1, g.2.1⟩)]
    have K := fun w => knownE_no p (by omega) w
    clear hp
    go_enter Tryd.func7, Tryd.ntmps7
    go_wp2_with (go_at_call 8; (with_reducible refine (K _).mono ?_); rintro e w1 ⟨rfl, rfl⟩)
    go_ret
    exact ⟨rfl, rfl⟩
end Go.Proofs.YthhdclgpllnenaaDoor
