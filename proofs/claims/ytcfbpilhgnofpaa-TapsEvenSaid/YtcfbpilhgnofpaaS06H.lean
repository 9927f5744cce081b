/- Weights that come to one: the law on taps. -/
import Derived.Test.YtcfbpilhgnofpaaS06G
namespace Go.Proofs.Ytcfbpilhgnofpaa
open Go.RowKit


set_option maxHeartbeats 4000000 in
set_option maxRecDepth 1000000 in
theorem of_TapsApportion {K : World → Prop} (hKB : ∀ w w', K w → Below w.heap.size w w' → K w') (CA : AppC K) (CG : GauC K) (CS : SumC K) (CZ : SizeC K)
    (xs : List Int) (ad : Option Addr) (cap : Nat) (w : World) (hk : K w) (hr : RowAt .i64 w ad xs) (hx : AllK .i64 xs) (hl : xs.length ≤ maxLen) (hz : ad = none → cap = 0) :
    Calls Try.prog 4 #[.slice ad xs.length cap] w fun e w' => e = .returned (.bool true) ∧ Below w.heap.size w w' := by
  unfold maxLen at hl
  have CL := fun w hk => tlives hKB CA CG w hk
  obtain ⟨i0, hi, hz0, hz1, hz2⟩ := info_parts infoI64A
  have HX := hide (show All64 xs from fun j hj => allK_i64 hx hj)
  have HR := hide hr
  have HZ := hide hz
  clear hx hr hz
  obtain ⟨n, hn⟩ : ∃ n, xs.length = n := ⟨_, rfl⟩
  have HN := hide hn
  rw [hn] at hl ⊢
  clear hn
  by_cases hs : n ≤ 200
  · obtain ⟨m, hm⟩ : ∃ m, (appOut xs).length = m := ⟨_, rfl⟩
    have HM := hide hm
    have hm2 : m ≤ 200 := by
      rw [← hm]
      unfold appOut
      split
      · rename_i g
        rw [(app_facts (appCode_fits.1 g)).1, HN.out]; exact hs
      · simp
    have C1 := fun ad cap w hk hr => CA xs ad cap w hk hr HX.out (by rw [HN.out]; omega)
    have C2 := fun ad cap w hr => refapp_any xs ad cap w hr HX.out (by rw [HN.out]; omega)
    have C3 := fun ad cap w hk hr => CS xs ad cap w hk hr HX.out (by rw [HN.out]; omega)
    have C4 := fun ad cap w hr => refsum_any xs ad cap w hr HX.out (by rw [HN.out]; omega)
    have C5 := fun ad cap w hk hr => CZ xs ad cap w hk hr HX.out (by rw [HN.out]; omega)
    have C6 := fun ad cap w hr => refsizes_any xs ad cap w hr HX.out (by rw [HN.out]; omega)
    rw [HN.out] at C1 C2 C3 C4 C5 C6
    generalize appOut xs = os at *
    generalize appCode xs = code at *
    generalize sumH xs = sm at *
    generalize sizeH xs = sz at *
    clear hm CA CG CS CZ
    go_enter Try.func4, Try.ntmps4
    go_wp2_with (first
      | (go_at_call 9; (with_reducible refine (CL _ hk).mono ?_); rintro e w1 ⟨rfl, b1⟩)
      | (at_builtin; refine wpList_append_row .i64 _ rfl (.tmp 16) (.tmp 17) 22 rfl w.heap.size 2 i0 (.int .i64 0) 8 Try.underlying22 hi hz0 hz1 hz2 rfl (.slice (some ⟨w1.heap.size, 0, none⟩) 0 0) [] rfl (own_lit0 _ _ _ _ (by have := b1.size; omega)) ad n cap xs rfl HN.out ((HR.out.below b1).below (below1 _ _)) HZ.out (by simp; unfold maxLen; omega) (by simp; omega) (by have := b1.size; simp; omega) ?_; intro v1 w2 own2 grow2 _; have bw2 := grown_lit b1 grow2; rw [List.nil_append] at own2; obtain ⟨ad1, cap1, rfl, r1, _⟩ := own2.formn HN.out)
      | (go_at_call 10; (with_reducible refine (C1 _ _ _ (hKB _ _ hk bw2) r1).mono ?_); rintro e w3 ⟨v3, rfl, q3, b3⟩; obtain ⟨ad3, cap3, rfl, r3⟩ := q3.formn HM.out)
      | (go_at_call 12; (with_reducible refine (C2 _ _ _ (HR.out.below (bt bw2 b3))).mono ?_); rintro e w4 ⟨v4, rfl, q4, b4⟩; obtain ⟨ad4, cap4, rfl, r4⟩ := q4.formn HM.out)
      | (go_at_call 11; (with_reducible refine (same_n m os HM.out _ _ _ _ _ (r3.below b4) r4 (by omega)).mono ?_); rintro e w5 ⟨rfl, b5⟩; have B5 := bt (bt b3 b4) b5)
      | (go_at_call 11; (with_reducible refine (same_n n xs HN.out _ _ _ _ _ (r1.below B5) (HR.out.below (bt bw2 B5)) (by omega)).mono ?_); rintro e w6 ⟨rfl, b6⟩; have B6 := bt (bt bw2 B5) b6)
      | (go_at_call 13; (with_reducible refine (C3 _ _ _ (hKB _ _ hk B6) (HR.out.below B6)).mono ?_); rintro e w7 ⟨rfl, b7⟩; have B7 := bt B6 b7)
      | (go_at_call 14; (with_reducible refine (C4 _ _ _ (HR.out.below B7)).mono ?_); rintro e w8 ⟨rfl, rfl⟩)
      | (go_at_call 15; (with_reducible refine (C5 _ _ _ (hKB _ _ hk B7) (HR.out.below B7)).mono ?_); rintro e w9 ⟨rfl, b9⟩; have B9 := bt B7 b9)
      | (go_at_call 16; (with_reducible refine (C6 _ _ _ (HR.out.below B9)).mono ?_); rintro e w10 ⟨rfl, rfl⟩))
    go_ret
    exact ⟨rfl, B9⟩
  · have hs' : (200 : Int) < (n : Int) := by omega
    go_enter Try.func4, Try.ntmps4
    go_wp2_with (first
      | (go_at_call 9; (with_reducible refine (CL _ hk).mono ?_); rintro e w1 ⟨rfl, b1⟩)
      | (go_at_call 9; (with_reducible refine (CL _ (hKB _ _ hk b1)).mono ?_); rintro e w2 ⟨rfl, b2⟩))
    go_ret
    exact ⟨rfl, bt b1 b2⟩
end Go.Proofs.Ytcfbpilhgnofpaa
