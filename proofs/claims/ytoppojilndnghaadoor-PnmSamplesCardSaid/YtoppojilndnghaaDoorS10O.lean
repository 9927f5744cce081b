/- The program's heads: what stands ahead of a number (two labels). Written by gen_XS10O.py. -/
import Derived.Test.YtoppojilndnghaaDoorS10N
namespace Go.Proofs.YtoppojilndnghaaDoor
open Go.RowKit


set_option maxHeartbeats 4000000 in
set_option maxRecDepth 100000 in
theorem hpast_any (xs : List Int) (n : Nat) (hn : xs.length = n) (h9 : n ≤ 1048576) (ad : Option Addr) (cap : Nat) (w : World) (hr : RowAt .u8 w ad xs) (i : Nat) (hi : i ≤ n) :
    Calls Tryd.prog 55 #[.slice ad n cap, .int .i64 (i : Int)] w fun e w' => ∃ j : Nat, e = .returned (.int .i64 (j : Int)) ∧ i ≤ j ∧ j ≤ n ∧ xs.drop j = (overF false false (xs.drop i)).1 ∧ w = w' := by
  obtain ⟨L, hL⟩ : ∃ L, (overF false false (xs.drop i)).1 = L := ⟨_, rfl⟩
  rw [hL]
  have HL := hide hL
  have HN := hide hn
  have HR := hide hr
  clear hL hn hr
  go_enter Tryd.func55, Tryd.ntmps55
  go_wp2
  refine wp_scope_two 0 1 (fun a' w' => w' = w ∧ ∃ (k : Nat), k ≤ n ∧ i ≤ k ∧ Hid ((overF false false (xs.drop k)).1 = L) ∧ ∃ (v2 v3 u5 u6 u7 u8 u9 u10 u11 u12 u13 u14 u15 u16 u17 u18 u19 u20 u21 u22 u23 u24 u25 u26 u27 u28 u29 u30 u31 u32 u33 u34 u35 u36 u37 u38 u39 u40 u41 u42 : Value), a' = { tmps := #[.slice ad n cap, .int .i64 (k : Int), v2, v3, .int .i64 0, u5, u6, u7, u8, u9, u10, u11, u12, u13, u14, u15, u16, u17, u18, u19, u20, u21, u22, u23, u24, u25, u26, u27, u28, u29, u30, u31, u32, u33, u34, u35, u36, u37, u38, u39, u40, u41, u42], defers := [] }) (fun a' w' => w' = w ∧ ∃ (k : Nat), k < n ∧ i ≤ k ∧ Hid ((overF true false (xs.drop (k + 1))).1 = L) ∧ ∃ (v2 v3 u5 u6 u7 u8 u9 u10 u11 u12 u13 u14 u15 u16 u17 u18 u19 u20 u21 u22 u23 u24 u25 u26 u27 u28 u29 u30 u31 u32 u33 u34 u35 u36 u37 u38 u39 u40 u41 u42 : Value), a' = { tmps := #[.slice ad n cap, .int .i64 (k : Int), v2, v3, .int .i64 0, u5, u6, u7, u8, u9, u10, u11, u12, u13, u14, u15, u16, u17, u18, u19, u20, u21, u22, u23, u24, u25, u26, u27, u28, u29, u30, u31, u32, u33, u34, u35, u36, u37, u38, u39, u40, u41, u42], defers := [] }) (fun a' _ => n - (intOf (a'.tmps.getD 1 undef)).toNat) (fun a' _ => n - (intOf (a'.tmps.getD 1 undef)).toNat) rfl rfl ?_ ?_ ?_
  · obtain ⟨k, rfl⟩ : ∃ k, k = i := ⟨_, rfl⟩
    have hik : k ≤ k := Nat.le_refl _
    have hk : k ≤ n := hi
    have ho := HL
    clear HL
    by_cases hlt : k < n
    · cases hb : blankF (xs.getD k 0) with
      | true =>
        have h1 := ho.out
        rw [overAt_blank (by rw [HN.out]; exact hlt) hb] at h1
        have H1 := hide h1
        have CB := fun w => hblank_any (xs.getD k 0) w
        rw [hb] at CB
        obtain ⟨b, off, rfl, c⟩ := HR.out.get (j := k) (by rw [HN.out]; exact hlt)
        clear h1 hb
        generalize xs.getD k 0 = x at *
        have hne : ((k : Int) == (n : Int)) = false := beq_eq_false_iff_ne.2 (by omega)
        go_wp2
        go_step3
        go_wp2_with (go_at_call 44; (with_reducible refine (CB _).mono ?_); rintro e w2 ⟨rfl, rfl⟩)
        go_step3
        exact Or.inl ⟨rfl, rfl, k + 1, by omega, by omega, H1, ⟨_, _, _, _, _, _, _, _, _, _, _, _, _, _, _, _, _, _, _, _, _, _, _, _, _, _, _, _, _, _, _, _, _, _, _, _, _, _, _, _, rfl⟩⟩
      | false =>
        have CB := fun w => hblank_any (xs.getD k 0) w
        rw [hb] at CB
        have hne : ((k : Int) == (n : Int)) = false := beq_eq_false_iff_ne.2 (by omega)
        by_cases h35 : xs.getD k 0 = 35
        · have hR := ho.out
          rw [overAt_hash (by rw [HN.out]; exact hlt) h35] at hR
          obtain ⟨b, off, rfl, c⟩ := HR.out.get (j := k) (by rw [HN.out]; exact hlt)
          rw [h35] at CB c
          clear hb h35
          by_cases hk1 : k + 1 < n
          · by_cases hl : xs.getD (k + 1) 0 = 10 ∨ xs.getD (k + 1) 0 = 13
            · have h2 := hR
              rw [overAt_out (by rw [HN.out]; exact hk1) hl] at h2
              have H2 := hide h2
              have c2 := HR.out.at (j := k + 1) (by rw [HN.out]; exact hk1)
              clear h2 hR
              generalize xs.getD (k + 1) 0 = y at *
              rcases hl with rfl | rfl
              all_goals
                go_wp2
                go_step3
                go_wp2_with (go_at_call 44; (with_reducible refine (CB _).mono ?_); rintro e w2 ⟨rfl, rfl⟩)
                go_step3
                go_wp2
                go_step3
                exact Or.inl ⟨rfl, rfl, k + 1, by omega, by omega, H2, ⟨_, _, _, _, _, _, _, _, _, _, _, _, _, _, _, _, _, _, _, _, _, _, _, _, _, _, _, _, _, _, _, _, _, _, _, _, _, _, _, _, rfl⟩⟩
            · have h2 := hR
              rw [overAt_in (by rw [HN.out]; exact hk1) (by omega) (by omega)] at h2
              have H2 := hide h2
              have c2 := HR.out.at (j := k + 1) (by rw [HN.out]; exact hk1)
              clear h2 hR
              generalize xs.getD (k + 1) 0 = y at *
              have e10 : (y != 10) = true := bne_iff_ne.2 (by omega)
              have e13 : (y != 13) = true := bne_iff_ne.2 (by omega)
              clear hl
              go_wp2
              go_step3
              go_wp2_with (go_at_call 44; (with_reducible refine (CB _).mono ?_); rintro e w2 ⟨rfl, rfl⟩)
              go_step3
              go_wp2
              go_step3
              exact Or.inr ⟨rfl, rfl, k + 1, by omega, by omega, H2, ⟨_, _, _, _, _, _, _, _, _, _, _, _, _, _, _, _, _, _, _, _, _, _, _, _, _, _, _, _, _, _, _, _, _, _, _, _, _, _, _, _, rfl⟩⟩
          · have hkn : k + 1 = n := by omega
            have h2 := hR
            rw [overAt_end (by rw [HN.out]; omega)] at h2
            have H2 := hide (show (overF false false (xs.drop (k + 1))).1 = L by rw [overAt_end (by rw [HN.out]; omega)]; exact h2)
            clear h2 hR
            have hk2 : ¬ ((k : Int) + 1 < (n : Int)) := by omega
            go_wp2
            go_step3
            go_wp2_with (go_at_call 44; (with_reducible refine (CB _).mono ?_); rintro e w2 ⟨rfl, rfl⟩)
            go_step3
            go_wp2
            go_step3
            exact Or.inl ⟨rfl, rfl, k + 1, by omega, by omega, H2, ⟨_, _, _, _, _, _, _, _, _, _, _, _, _, _, _, _, _, _, _, _, _, _, _, _, _, _, _, _, _, _, _, _, _, _, _, _, _, _, _, _, rfl⟩⟩
        · have h1 := ho.out
          rw [overAt_other (by rw [HN.out]; exact hlt) hb h35] at h1
          have H1 := hide h1
          obtain ⟨b, off, rfl, c⟩ := HR.out.get (j := k) (by rw [HN.out]; exact hlt)
          clear h1 hb
          generalize xs.getD k 0 = x at *
          have e35 : (x != 35) = true := bne_iff_ne.2 h35
          clear h35
          go_wp2
          go_step3
          go_wp2_with (go_at_call 44; (with_reducible refine (CB _).mono ?_); rintro e w2 ⟨rfl, rfl⟩)
          simp only [jump2]
          go_ret
          exact ⟨k, rfl, by omega, by omega, H1.out, rfl⟩
    · have h1 := ho.out
      obtain rfl : k = n := by omega
      have h2 : L = xs.drop k := by rw [← h1, overAt_end (by rw [HN.out]; exact Nat.le_refl _), List.drop_eq_nil_of_le (by rw [HN.out]; exact Nat.le_refl _)]
      have H1 := hide h2
      clear h1 h2 hlt
      have hne : ((k : Int) == (k : Int)) = true := beq_self_eq_true _
      go_wp2
      go_step3
      go_wp2
      simp only [jump2]
      go_ret
      exact ⟨k, rfl, by omega, by omega, H1.out.symm, rfl⟩
  · rintro a' w' ⟨rfl, k, hk, hik, ho, v2, v3, u5, u6, u7, u8, u9, u10, u11, u12, u13, u14, u15, u16, u17, u18, u19, u20, u21, u22, u23, u24, u25, u26, u27, u28, u29, u30, u31, u32, u33, u34, u35, u36, u37, u38, u39, u40, u41, u42, rfl⟩
    clear HL
    by_cases hlt : k < n
    · cases hb : blankF (xs.getD k 0) with
      | true =>
        have h1 := ho.out
        rw [overAt_blank (by rw [HN.out]; exact hlt) hb] at h1
        have H1 := hide h1
        have CB := fun w => hblank_any (xs.getD k 0) w
        rw [hb] at CB
        obtain ⟨b, off, rfl, c⟩ := HR.out.get (j := k) (by rw [HN.out]; exact hlt)
        clear h1 hb
        generalize xs.getD k 0 = x at *
        have hne : ((k : Int) == (n : Int)) = false := beq_eq_false_iff_ne.2 (by omega)
        go_wp2_with (go_at_call 44; (with_reducible refine (CB _).mono ?_); rintro e w2 ⟨rfl, rfl⟩)
        go_step3
        exact Or.inl ⟨rfl, ⟨rfl, k + 1, by omega, by omega, H1, ⟨_, _, _, _, _, _, _, _, _, _, _, _, _, _, _, _, _, _, _, _, _, _, _, _, _, _, _, _, _, _, _, _, _, _, _, _, _, _, _, _, rfl⟩⟩, by simp [intOf]; omega⟩
      | false =>
        have CB := fun w => hblank_any (xs.getD k 0) w
        rw [hb] at CB
        have hne : ((k : Int) == (n : Int)) = false := beq_eq_false_iff_ne.2 (by omega)
        by_cases h35 : xs.getD k 0 = 35
        · have hR := ho.out
          rw [overAt_hash (by rw [HN.out]; exact hlt) h35] at hR
          obtain ⟨b, off, rfl, c⟩ := HR.out.get (j := k) (by rw [HN.out]; exact hlt)
          rw [h35] at CB c
          clear hb h35
          by_cases hk1 : k + 1 < n
          · by_cases hl : xs.getD (k + 1) 0 = 10 ∨ xs.getD (k + 1) 0 = 13
            · have h2 := hR
              rw [overAt_out (by rw [HN.out]; exact hk1) hl] at h2
              have H2 := hide h2
              have c2 := HR.out.at (j := k + 1) (by rw [HN.out]; exact hk1)
              clear h2 hR
              generalize xs.getD (k + 1) 0 = y at *
              rcases hl with rfl | rfl
              all_goals
                go_wp2_with (go_at_call 44; (with_reducible refine (CB _).mono ?_); rintro e w2 ⟨rfl, rfl⟩)
                go_step3
                go_wp2
                go_step3
                exact Or.inl ⟨rfl, ⟨rfl, k + 1, by omega, by omega, H2, ⟨_, _, _, _, _, _, _, _, _, _, _, _, _, _, _, _, _, _, _, _, _, _, _, _, _, _, _, _, _, _, _, _, _, _, _, _, _, _, _, _, rfl⟩⟩, by simp [intOf]; omega⟩
            · have h2 := hR
              rw [overAt_in (by rw [HN.out]; exact hk1) (by omega) (by omega)] at h2
              have H2 := hide h2
              have c2 := HR.out.at (j := k + 1) (by rw [HN.out]; exact hk1)
              clear h2 hR
              generalize xs.getD (k + 1) 0 = y at *
              have e10 : (y != 10) = true := bne_iff_ne.2 (by omega)
              have e13 : (y != 13) = true := bne_iff_ne.2 (by omega)
              clear hl
              go_wp2_with (go_at_call 44; (with_reducible refine (CB _).mono ?_); rintro e w2 ⟨rfl, rfl⟩)
              go_step3
              go_wp2
              go_step3
              exact Or.inr ⟨rfl, ⟨rfl, k + 1, by omega, by omega, H2, ⟨_, _, _, _, _, _, _, _, _, _, _, _, _, _, _, _, _, _, _, _, _, _, _, _, _, _, _, _, _, _, _, _, _, _, _, _, _, _, _, _, rfl⟩⟩, by simp [intOf]; omega⟩
          · have hkn : k + 1 = n := by omega
            have h2 := hR
            rw [overAt_end (by rw [HN.out]; omega)] at h2
            have H2 := hide (show (overF false false (xs.drop (k + 1))).1 = L by rw [overAt_end (by rw [HN.out]; omega)]; exact h2)
            clear h2 hR
            have hk2 : ¬ ((k : Int) + 1 < (n : Int)) := by omega
            go_wp2_with (go_at_call 44; (with_reducible refine (CB _).mono ?_); rintro e w2 ⟨rfl, rfl⟩)
            go_step3
            go_wp2
            go_step3
            exact Or.inl ⟨rfl, ⟨rfl, k + 1, by omega, by omega, H2, ⟨_, _, _, _, _, _, _, _, _, _, _, _, _, _, _, _, _, _, _, _, _, _, _, _, _, _, _, _, _, _, _, _, _, _, _, _, _, _, _, _, rfl⟩⟩, by simp [intOf]; omega⟩
        · have h1 := ho.out
          rw [overAt_other (by rw [HN.out]; exact hlt) hb h35] at h1
          have H1 := hide h1
          obtain ⟨b, off, rfl, c⟩ := HR.out.get (j := k) (by rw [HN.out]; exact hlt)
          clear h1 hb
          generalize xs.getD k 0 = x at *
          have e35 : (x != 35) = true := bne_iff_ne.2 h35
          clear h35
          go_wp2_with (go_at_call 44; (with_reducible refine (CB _).mono ?_); rintro e w2 ⟨rfl, rfl⟩)
          simp only [jump2]
          go_ret
          exact ⟨k, rfl, by omega, by omega, H1.out, rfl⟩
    · have h1 := ho.out
      obtain rfl : k = n := by omega
      have h2 : L = xs.drop k := by rw [← h1, overAt_end (by rw [HN.out]; exact Nat.le_refl _), List.drop_eq_nil_of_le (by rw [HN.out]; exact Nat.le_refl _)]
      have H1 := hide h2
      clear h1 h2 hlt
      have hne : ((k : Int) == (k : Int)) = true := beq_self_eq_true _
      go_wp2
      simp only [jump2]
      go_ret
      exact ⟨k, rfl, by omega, by omega, H1.out.symm, rfl⟩
  · rintro a' w' ⟨rfl, k, hlt, hik, ho, v2, v3, u5, u6, u7, u8, u9, u10, u11, u12, u13, u14, u15, u16, u17, u18, u19, u20, u21, u22, u23, u24, u25, u26, u27, u28, u29, u30, u31, u32, u33, u34, u35, u36, u37, u38, u39, u40, u41, u42, rfl⟩
    clear HL
    have hR := ho.out
    by_cases hk1 : k + 1 < n
    · by_cases hl : xs.getD (k + 1) 0 = 10 ∨ xs.getD (k + 1) 0 = 13
      · have h2 := hR
        rw [overAt_out (by rw [HN.out]; exact hk1) hl] at h2
        have H2 := hide h2
        obtain ⟨b, off, rfl, c2⟩ := HR.out.get (j := k + 1) (by rw [HN.out]; exact hk1)
        clear h2 hR
        generalize xs.getD (k + 1) 0 = y at *
        rcases hl with rfl | rfl
        all_goals
          go_wp2
          go_step3
          exact Or.inl ⟨rfl, ⟨rfl, k + 1, by omega, by omega, H2, ⟨_, _, _, _, _, _, _, _, _, _, _, _, _, _, _, _, _, _, _, _, _, _, _, _, _, _, _, _, _, _, _, _, _, _, _, _, _, _, _, _, rfl⟩⟩, by simp [intOf]; omega⟩
      · have h2 := hR
        rw [overAt_in (by rw [HN.out]; exact hk1) (by omega) (by omega)] at h2
        have H2 := hide h2
        obtain ⟨b, off, rfl, c2⟩ := HR.out.get (j := k + 1) (by rw [HN.out]; exact hk1)
        clear h2 hR
        generalize xs.getD (k + 1) 0 = y at *
        have e10 : (y != 10) = true := bne_iff_ne.2 (by omega)
        have e13 : (y != 13) = true := bne_iff_ne.2 (by omega)
        clear hl
        go_wp2
        go_step3
        exact Or.inr ⟨rfl, ⟨rfl, k + 1, by omega, by omega, H2, ⟨_, _, _, _, _, _, _, _, _, _, _, _, _, _, _, _, _, _, _, _, _, _, _, _, _, _, _, _, _, _, _, _, _, _, _, _, _, _, _, _, rfl⟩⟩, by simp [intOf]; omega⟩
    · have hkn : k + 1 = n := by omega
      have h2 := hR
      rw [overAt_end (by rw [HN.out]; omega)] at h2
      have H2 := hide (show (overF false false (xs.drop (k + 1))).1 = L by rw [overAt_end (by rw [HN.out]; omega)]; exact h2)
      clear h2 hR
      have hk2 : ¬ ((k : Int) + 1 < (n : Int)) := by omega
      go_wp2
      go_step3
      exact Or.inl ⟨rfl, ⟨rfl, k + 1, by omega, by omega, H2, ⟨_, _, _, _, _, _, _, _, _, _, _, _, _, _, _, _, _, _, _, _, _, _, _, _, _, _, _, _, _, _, _, _, _, _, _, _, _, _, _, _, rfl⟩⟩, by simp [intOf]; omega⟩
end Go.Proofs.YtoppojilndnghaaDoor
