/- Weights that come to one: the law on weights that are all so many times as great: its walk. -/
import Derived.Test.YtcfbpilhgnofpaaS06L
namespace Go.Proofs.Ytcfbpilhgnofpaa
open Go.RowKit


theorem appOut_nil {l : List Int} (h : appCode l ≠ 0) : appOut l = [] := by unfold appOut; rw [if_neg h]
theorem range_64 {l : List Int} (h : ∀ x ∈ l, smallW x) : All64 l := fun j hj => by
  have := mem_getD h hj
  unfold smallW at this; omega
set_option maxHeartbeats 4000000 in
set_option maxRecDepth 1000000 in
theorem of_TapsScaled {K : World → Prop} (hKB : ∀ w w', K w → Below w.heap.size w w' → K w') (CA : AppC K) (CG : GauC K)
    (xs : List Int) (ad : Option Addr) (cap : Nat) (b : Int) (w : World) (hk : K w) (hr : RowAt .i64 w ad xs) (hx : AllK .i64 xs) (hl : xs.length ≤ maxLen) (_hz : ad = none → cap = 0) (hb : 0 ≤ b ∧ b ≤ 255) :
    Calls Try.prog 3 #[.slice ad xs.length cap, .int .u8 b] w fun e w' => e = .returned (.bool true) ∧ Below w.heap.size w w' := by
  unfold maxLen at hl
  have CL := fun w hk => tlives hKB CA CG w hk
  obtain ⟨i0, hi, hz0, hz1, hz2⟩ := info_parts infoI64A
  have HX := hide (show All64 xs from fun j hj => allK_i64 hx hj)
  have HR := hide hr
  clear hx hr _hz CG
  obtain ⟨b0, b1⟩ := hb
  obtain ⟨n, hn⟩ : ∃ n, xs.length = n := ⟨_, rfl⟩
  have HN := hide hn
  rw [hn] at hl ⊢
  clear hn
  obtain ⟨k, hk1⟩ : ∃ k, b % 50 = k - 1 := ⟨1 + b % 50, by omega⟩
  have k0 : 1 ≤ k := by omega
  have k1 : k ≤ 50 := by omega
  by_cases hs : n ≤ 100
  · have HCA := hide CA
    clear CA
    go_enter Try.func3, Try.ntmps3
    go_wp2_with (first
      | (go_at_call 9; (with_reducible refine (CL _ hk).mono ?_); rintro e w1 ⟨rfl, bw1⟩))
    clear CL
    have HK := hide hk1
    rw [show 1 + (k - 1) = k by omega]
    clear hk1
    go_loopw [6, 27] (fun u i wr => ∃ j : Nat, j ≤ n ∧ i = .int .i64 (j : Int) ∧ OwnI .i64 2 wr w.heap.size u (timesL k (xs.take j)) ∧ (∀ t, t < j → -4294967296 ≤ xs.getD t 0 ∧ xs.getD t 0 ≤ 4294967296) ∧ Below w.heap.size w wr) (fun _ i _ => n - (intOf i).toNat)
    case atStart => exact ⟨0, by omega, rfl, OwnI.nil _ _ _ _, fun t ht => absurd ht (Nat.not_lt_zero _), bw1⟩
    case round =>
      obtain ⟨j, hj, rfl, ho, hall, hb⟩ := hrel
      have HO := hide ho
      have HA := hide hall
      have HB := hide hb
      clear ho hall hb bw1
      by_cases hlt : j < n
      · obtain ⟨bb, off, rfl, hc⟩ := (HR.out.below HB.out).get (show j < xs.length by rw [HN.out]; exact hlt)
        obtain ⟨x0, x1⟩ := HX.out j (by rw [HN.out]; exact hlt)
        by_cases g : 4294967296 < xs.getD j 0
        · generalize xs.getD j 0 = x at *
          go_wp2
          go_ret
          exact ⟨rfl, HB.out⟩
        by_cases g2 : xs.getD j 0 < -4294967296
        · generalize xs.getD j 0 = x at *
          go_wp2
          go_ret
          exact ⟨rfl, HB.out⟩
        have HT := hide (take_step xs (show j < xs.length by rw [HN.out]; exact hlt))
        have HL := hide (show (timesL k (xs.take j)).length = j by rw [timesL_len, List.length_take]; have := HN.out; omega)
        have m1 := Int.mul_le_mul_of_nonneg_right (show xs.getD j 0 ≤ 4294967296 by omega) (show 0 ≤ k by omega)
        have m0 := Int.mul_le_mul_of_nonneg_right (show -4294967296 ≤ xs.getD j 0 by omega) (show 0 ≤ k by omega)
        have HG := hide (show -4294967296 ≤ xs.getD j 0 ∧ xs.getD j 0 ≤ 4294967296 by omega)
        generalize hxe : xs.getD j 0 = x at *
        have HXE := hide hxe
        clear hxe
        go_wp2_with (at_builtin; refine wpList_append_own _ rfl _ _ 22 rfl w.heap.size 2 i0 (.int .i64 0) 1 8 Try.underlying22 hi hz0 hz1 hz2 rfl (by decide) _ _ _ rfl (HO.out.alloc _) ⟨wr.heap.size, 0, none⟩ 1 1 [.int .i64 (x * k)] rfl rfl (new_one _ _ _) (one_int _ _) (by rw [HL.out]; unfold maxLen; omega) (by rw [HL.out]; omega) (by have := HB.out.size; simp; omega) ?_; intro u' w3 own3 grow3 _)
        have R := hide (own_more HB.out HO.out own3 grow3)
        clear own3 grow3
        go_wp2
        go_roundw
        case rel => exact ⟨j + 1, by omega, by go_num, by rw [HT.out, timesL_snoc]; exact R.out.1, fun t ht => by
          by_cases e : t = j
          · subst e; rw [HXE.out]; exact HG.out
          · exact HA.out t (by omega), R.out.2⟩
        case measure => simp [intOf]; omega
      · obtain rfl : j = n := by omega
        have et : xs.take j = xs := List.take_of_length_le (by rw [HN.out]; exact Nat.le_refl _)
        have OW := HO.out
        rw [et] at OW
        have RG : ∀ x ∈ xs, -4294967296 ≤ x ∧ x ≤ 4294967296 := getD_mem fun t ht => HA.out t (by rw [HN.out] at ht; exact ht)
        obtain ⟨ad2, cap2, rfl, r2, _⟩ := OW.formn ((timesL_len k xs).trans HN.out)
        have SC := scaled_app k0 k1 RG (by rw [HN.out]; exact hs)
        have X2 := range_64 (scaled_small k0 k1 RG).2
        have C1 := fun w hk hr => HCA.out xs ad cap w hk hr HX.out (by rw [HN.out]; omega)
        have C2 := fun w hk hr => HCA.out (timesL k xs) ad2 cap2 w hk hr X2 (by rw [timesL_len, HN.out]; omega)
        rw [HN.out] at C1
        rw [timesL_len, HN.out] at C2
        have R2 := hide r2
        have R1 := hide (HR.out.below HB.out)
        clear et OW RG r2 X2 HO HA hlt hj
        generalize timesL k xs = ys at *
        rcases SC with ⟨e1, e2⟩ | e1 | ⟨e1, e2, e3⟩
        · rw [appOut_nil (by omega), e1] at C1
          rw [appOut_nil (by omega), e2] at C2
          clear e1 e2
          go_wp2_with (first
            | (go_at_call 10; (with_reducible refine (C1 _ (hKB _ _ hk HB.out) R1.out).mono ?_); rintro e w2 ⟨v2, rfl, q2, b2⟩; have B2 := bt HB.out b2; obtain ⟨ad3, cap3, rfl, r3⟩ := q2.formn (show [].length = 0 from rfl))
            | (go_at_call 10; (with_reducible refine (C2 _ (hKB _ _ hk B2) (R2.out.below b2)).mono ?_); rintro e w3 ⟨v3, rfl, q3, b3⟩; have B3 := bt B2 b3; obtain ⟨ad4, cap4, rfl, r4⟩ := q3.formn (show [].length = 0 from rfl)))
          go_ret
          exact ⟨rfl, B3⟩
        · rw [appOut_nil (by omega), e1] at C1
          generalize appOut ys = os at *
          obtain ⟨c2, hc2⟩ : ∃ c2, appCode ys = c2 := ⟨_, rfl⟩
          rw [hc2] at C2
          clear hc2 e1
          have way : (c2 == 8) = true ∨ (c2 == 8) = false := by cases (c2 == 8) <;> simp
          rcases way with g | g
          all_goals
            go_wp2_with (first
              | (go_at_call 10; (with_reducible refine (C1 _ (hKB _ _ hk HB.out) R1.out).mono ?_); rintro e w2 ⟨v2, rfl, q2, b2⟩; have B2 := bt HB.out b2; obtain ⟨ad3, cap3, rfl, r3⟩ := q2.formn (show [].length = 0 from rfl))
              | (go_at_call 10; (with_reducible refine (C2 _ (hKB _ _ hk B2) (R2.out.below b2)).mono ?_); rintro e w3 ⟨v3, rfl, q3, b3⟩; have B3 := bt B2 b3))
            go_ret
            exact ⟨rfl, B3⟩
        · obtain ⟨m, hm⟩ : ∃ m, (appOut xs).length = m := ⟨_, rfl⟩
          have hm2 : m ≤ 100 := by
            rw [← hm]
            unfold appOut
            rw [if_pos e1, (app_facts (appCode_fits.1 e1)).1, HN.out]; exact hs
          rw [e3, e2] at C2
          rw [e1] at C1
          have HM := hide hm
          clear e1 e2 e3 hm
          generalize appOut xs = os at *
          go_wp2_with (first
            | (go_at_call 10; (with_reducible refine (C1 _ (hKB _ _ hk HB.out) R1.out).mono ?_); rintro e w2 ⟨v2, rfl, q2, b2⟩; have B2 := bt HB.out b2; obtain ⟨ad3, cap3, rfl, r3⟩ := q2.formn HM.out)
            | (go_at_call 10; (with_reducible refine (C2 _ (hKB _ _ hk B2) (R2.out.below b2)).mono ?_); rintro e w3 ⟨v3, rfl, q3, b3⟩; have B3 := bt B2 b3; obtain ⟨ad4, cap4, rfl, r4⟩ := q3.formn HM.out)
            | (go_at_call 11; (with_reducible refine (same_n m os HM.out _ _ _ _ _ (r3.below b3) r4 (by omega)).mono ?_); rintro e w4 ⟨rfl, b4⟩))
          go_ret
          exact ⟨rfl, bt B3 b4⟩
  · have hs' : (100 : Int) < (n : Int) := by omega
    clear CA hk1
    go_enter Try.func3, Try.ntmps3
    go_wp2_with (first
      | (go_at_call 9; (with_reducible refine (CL _ hk).mono ?_); rintro e w1 ⟨rfl, b1⟩)
      | (go_at_call 9; (with_reducible refine (CL _ (hKB _ _ hk b1)).mono ?_); rintro e w2 ⟨rfl, b2⟩))
    go_ret
    exact ⟨rfl, bt b1 b2⟩
end Go.Proofs.Ytcfbpilhgnofpaa
