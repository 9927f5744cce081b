/- Weights that come to one: the laws on kernels. -/
import Derived.Test.YtcfbpilhgnofpaaS06I
import Derived.Test.YtcfbpilhgnofpaaS06G
namespace Go.Proofs.Ytcfbpilhgnofpaa
open Go.RowKit


theorem userOut_len (xs : List Int) : (userOut xs).length ≤ xs.length := by
  unfold userOut userR
  split
  · rw [List.length_map]; exact Nat.le_refl _
  · simp
set_option maxHeartbeats 4000000 in
set_option maxRecDepth 1000000 in
theorem of_TapsUser {K : World → Prop} (hKB : ∀ w w', K w → Below w.heap.size w w' → K w') (CA : AppC K) (CG : GauC K) (CU : UserC K)
    (xs : List Int) (ad : Option Addr) (cap : Nat) (w : World) (hk : K w) (hr : RowAt .i64 w ad xs) (hx : AllK .i64 xs) (hl : xs.length ≤ maxLen) (hz : ad = none → cap = 0) :
    Calls Try.prog 6 #[.slice ad xs.length cap] w fun e w' => e = .returned (.bool true) ∧ Below w.heap.size w w' := by
  unfold maxLen at hl
  have CL := fun w hk => tlives hKB CA CG w hk
  obtain ⟨i0, hi, hz0, hz1, hz2⟩ := info_parts infoI64A
  have HX := hide (show All64 xs from fun j hj => allK_i64 hx hj)
  have HR := hide hr
  have HZ := hide hz
  clear hx hr hz
  obtain ⟨n, hn⟩ : ∃ n, xs.length = n := ⟨_, rfl⟩
  have HN := hide hn
  rw [hn] at hl ⊢
  clear hn
  by_cases hs : n ≤ 1100
  · obtain ⟨m, hm⟩ : ∃ m, (userOut xs).length = m := ⟨_, rfl⟩
    have HM := hide hm
    have hm2 : m ≤ 1100 := by
      have := userOut_len xs
      rw [hm, HN.out] at this; omega
    have C1 := fun ad cap w hk hr => CU xs ad cap w hk hr HX.out (by rw [HN.out]; omega)
    have C2 := fun ad cap w hr => refuser_any xs ad cap w hr HX.out (by rw [HN.out]; omega)
    rw [HN.out] at C1 C2
    generalize userOut xs = os at *
    generalize userCode xs = code at *
    clear hm CA CG CU
    go_enter Try.func6, Try.ntmps6
    go_wp2_with (first
      | (go_at_call 9; (with_reducible refine (CL _ hk).mono ?_); rintro e w1 ⟨rfl, b1⟩)
      | (at_builtin; refine wpList_append_row .i64 _ rfl (.tmp 16) (.tmp 17) 22 rfl w.heap.size 2 i0 (.int .i64 0) 8 Try.underlying22 hi hz0 hz1 hz2 rfl (.slice (some ⟨w1.heap.size, 0, none⟩) 0 0) [] rfl (own_lit0 _ _ _ _ (by have := b1.size; omega)) ad n cap xs rfl HN.out ((HR.out.below b1).below (below1 _ _)) HZ.out (by simp; unfold maxLen; omega) (by simp; omega) (by have := b1.size; simp; omega) ?_; intro v1 w2 own2 grow2 _; have bw2 := grown_lit b1 grow2; rw [List.nil_append] at own2; obtain ⟨ad1, cap1, rfl, r1, _⟩ := own2.formn HN.out)
      | (go_at_call 17; (with_reducible refine (C1 _ _ _ (hKB _ _ hk bw2) r1).mono ?_); rintro e w3 ⟨v3, rfl, q3, b3⟩; obtain ⟨ad3, cap3, rfl, r3⟩ := q3.formn HM.out)
      | (go_at_call 18; (with_reducible refine (C2 _ _ _ (HR.out.below (bt bw2 b3))).mono ?_); rintro e w4 ⟨v4, rfl, q4, b4⟩; obtain ⟨ad4, cap4, rfl, r4⟩ := q4.formn HM.out)
      | (go_at_call 11; (with_reducible refine (same_n m os HM.out _ _ _ _ _ (r3.below b4) r4 (by omega)).mono ?_); rintro e w5 ⟨rfl, b5⟩; have B5 := bt (bt b3 b4) b5)
      | (go_at_call 11; (with_reducible refine (same_n n xs HN.out _ _ _ _ _ (r1.below B5) (HR.out.below (bt bw2 B5)) (by omega)).mono ?_); rintro e w6 ⟨rfl, b6⟩; have B6 := bt (bt bw2 B5) b6))
    go_ret
    exact ⟨rfl, B6⟩
  · have hs' : (1100 : Int) < (n : Int) := by omega
    clear CU
    go_enter Try.func6, Try.ntmps6
    go_wp2_with (first
      | (go_at_call 9; (with_reducible refine (CL _ hk).mono ?_); rintro e w1 ⟨rfl, b1⟩)
      | (go_at_call 9; (with_reducible refine (CL _ (hKB _ _ hk b1)).mono ?_); rintro e w2 ⟨rfl, b2⟩))
    go_ret
    exact ⟨rfl, bt b1 b2⟩
theorem blur_cases (r : Int) : (blurCode r = 7 ∧ blurOut r = []) ∨ (blurCode r = 0 ∧ Fits (blurOut r) ∧ (blurOut r).length ≤ 1023) := by
  unfold blurCode blurOut
  by_cases h : 0 ≤ r ∧ r ≤ 511
  · rw [if_pos h, if_pos h]
    obtain ⟨f, l⟩ := ones_fits r.toNat (by omega)
    exact Or.inr ⟨rfl, f, l⟩
  · rw [if_neg h, if_neg h]
    exact Or.inl ⟨rfl, rfl⟩
theorem gau_cases (s : Int) : (gauCode s = 7 ∧ gauOut s = []) ∨ (gauCode s = 0 ∧ Fits (gauOut s) ∧ (gauOut s).length ≤ 1023) := by
  unfold gauCode gauOut
  by_cases h : 1 ≤ s ∧ s ≤ 4194304
  · rw [if_pos h, if_pos h]
    obtain ⟨f, l⟩ := gauss_fits h.1 h.2
    exact Or.inr ⟨rfl, f, by omega⟩
  · rw [if_neg h, if_neg h]
    exact Or.inl ⟨rfl, rfl⟩
theorem fits_64 {l : List Int} (h : Fits l) : All64 l := fun j hj => by
  have := mem_getD h.small hj
  unfold smallW at this; omega
theorem nil_64 : All64 [] := fun _ hj => absurd hj (Nat.not_lt_zero _)
/-- Of what comes out the taps' code: 0, if there is something. -/
theorem made_cases {c : Int} {l : List Int} (h : (c = 7 ∧ l = []) ∨ (c = 0 ∧ Fits l ∧ l.length ≤ 1023)) : All64 l ∧ l.length ≤ 1023 ∧ ((c = 7) ∨ (c = 0 ∧ appCode l = 0)) := by
  rcases h with ⟨rfl, rfl⟩ | ⟨rfl, f, g⟩
  · exact ⟨nil_64, by simp, Or.inl rfl⟩
  · exact ⟨fits_64 f, g, Or.inr ⟨rfl, appCode_fits.2 f⟩⟩
set_option maxHeartbeats 4000000 in
set_option maxRecDepth 1000000 in
theorem of_TapsMade {K : World → Prop} (hKB : ∀ w w', K w → Below w.heap.size w w' → K w') (CA : AppC K) (CG : GauC K) (CB : BlurC K)
    (s r : Int) (w : World) (hk : K w) (hs : -9223372036854775808 ≤ s ∧ s ≤ 9223372036854775807) (hr : -9223372036854775808 ≤ r ∧ r ≤ 9223372036854775807) :
    Calls Try.prog 7 #[.int .i64 s, .int .i64 r] w fun e w' => e = .returned (.bool true) ∧ Below w.heap.size w w' := by
  have CL := fun w hk => tlives hKB CA CG w hk
  obtain ⟨s0, s1⟩ := hs
  obtain ⟨r0, r1⟩ := hr
  obtain ⟨t, ht⟩ : ∃ t, (if 1048576 < s ∧ s ≤ 4194304 then s / 4 else s) = t := ⟨_, rfl⟩
  have tb : -9223372036854775808 ≤ t ∧ t ≤ 9223372036854775807 := by rw [← ht]; split <;> omega
  obtain ⟨g1, g2, g3⟩ := made_cases (gau_cases t)
  obtain ⟨k1, k2, k3⟩ := made_cases (blur_cases r)
  obtain ⟨n, hn⟩ : ∃ n, (gauOut t).length = n := ⟨_, rfl⟩
  obtain ⟨m, hm⟩ : ∃ m, (blurOut r).length = m := ⟨_, rfl⟩
  have C1 := fun w hk => CG t w hk tb.1 tb.2
  have C2 := fun w => refgaussian_any t w
  have C3 := fun w hk => CB r w hk r0 r1
  have C4 := fun w => refblur_any r w
  have C5 := fun ad cap w hk hr => CA (gauOut t) ad cap w hk hr g1 (by omega)
  have C6 := fun ad cap w hk hr => CA (blurOut r) ad cap w hk hr k1 (by omega)
  rw [hn] at C5 g2
  rw [hm] at C6 k2
  have HN := hide hn
  have HM := hide hm
  clear hn hm g1 k1 tb CB CA CG
  generalize gauOut t = gs at *
  generalize blurOut r = bs at *
  generalize gauCode t = gc at *
  generalize blurCode r = bc at *
  generalize appCode gs = ac at *
  generalize appCode bs = dc at *
  have way : (decide (1048576 < s) = true ∧ decide (s ≤ 4194304) = true ∧ t = s / 4) ∨ (decide (1048576 < s) = false ∧ t = s) ∨ (decide (1048576 < s) = true ∧ decide (s ≤ 4194304) = false ∧ t = s) := by
    by_cases a : 1048576 < s
    · by_cases b : s ≤ 4194304
      · exact Or.inl ⟨decide_eq_true a, decide_eq_true b, by rw [if_pos ⟨a, b⟩] at ht; exact ht.symm⟩
      · exact Or.inr (Or.inr ⟨decide_eq_true a, decide_eq_false b, by rw [if_neg (fun q => b q.2)] at ht; exact ht.symm⟩)
    · exact Or.inr (Or.inl ⟨decide_eq_false a, by rw [if_neg (fun q => a q.1)] at ht; exact ht.symm⟩)
  clear ht
  rcases way with ⟨a, b, rfl⟩ | ⟨a, rfl⟩ | ⟨a, b, rfl⟩
  all_goals
    rcases g3 with rfl | ⟨rfl, rfl⟩ <;> rcases k3 with rfl | ⟨rfl, rfl⟩
  all_goals
    go_enter Try.func7, Try.ntmps7
    go_wp2_with (first
      | (go_at_call 9; (with_reducible refine (CL _ hk).mono ?_); rintro e w1 ⟨rfl, b1⟩)
      | (go_at_call 19; (with_reducible refine (C1 _ (hKB _ _ hk b1)).mono ?_); rintro e w2 ⟨v2, rfl, q2, b2⟩; have B2 := bt b1 b2; obtain ⟨ad2, cap2, rfl, r2⟩ := q2.formn HN.out)
      | (go_at_call 20; (with_reducible refine (C2 _).mono ?_); rintro e w3 ⟨v3, rfl, q3, b3⟩; have B3 := bt B2 b3; obtain ⟨ad3, cap3, rfl, r3⟩ := q3.formn HN.out)
      | (go_at_call 21; (with_reducible refine (C3 _ (hKB _ _ hk B3)).mono ?_); rintro e w4 ⟨v4, rfl, q4, b4⟩; have B4 := bt B3 b4; obtain ⟨ad4, cap4, rfl, r4⟩ := q4.formn HM.out)
      | (go_at_call 22; (with_reducible refine (C4 _).mono ?_); rintro e w5 ⟨v5, rfl, q5, b5⟩; have B5 := bt B4 b5; obtain ⟨ad5, cap5, rfl, r5⟩ := q5.formn HM.out)
      | (go_at_call 11; (with_reducible refine (same_n n gs HN.out _ _ _ _ _ (r2.below (bt b3 (bt b4 b5))) (r3.below (bt b4 b5)) (by omega)).mono ?_); rintro e w6 ⟨rfl, b6⟩; have B6 := bt B5 b6)
      | (go_at_call 11; (with_reducible refine (same_n m bs HM.out _ _ _ _ _ (r4.below (bt b5 b6)) (r5.below b6) (by omega)).mono ?_); rintro e w7 ⟨rfl, b7⟩; have B7 := bt B6 b7)
      | (go_at_call 10; (with_reducible refine (C5 _ _ _ (hKB _ _ hk B7) (r2.below (bt b3 (bt b4 (bt b5 (bt b6 b7)))))).mono ?_); rintro e w8 ⟨v8, rfl, q8, b8⟩; have B8 := bt B7 b8)
      | (go_at_call 10; (with_reducible refine (C6 _ _ _ (hKB _ _ hk B8) (r4.below (bt b5 (bt b6 (bt b7 b8))))).mono ?_); rintro e w9 ⟨v9, rfl, q9, b9⟩; have B9 := bt B8 b9))
    go_ret
    exact ⟨rfl, B9⟩
end Go.Proofs.Ytcfbpilhgnofpaa
