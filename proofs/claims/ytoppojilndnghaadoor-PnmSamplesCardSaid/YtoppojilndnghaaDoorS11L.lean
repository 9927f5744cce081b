/- Images as bytes: the law on a sample that is above the greatest one. -/
import Derived.Test.YtoppojilndnghaaDoorS11K
namespace Go.Proofs.YtoppojilndnghaaDoor
open Go.RowKit


theorem set_behind (T L : List Int) (j : Nat) (x : Int) : (T ++ L).set (T.length + j) x = T ++ L.set j x := by
  rw [List.set_append_right _ _ (by omega), Nat.add_sub_cancel_left]
/-- One sample is another one. -/
theorem dec_set {I : Im} (h : ImOk I) (ht : I.it = 100) {j : Nat} (hj : j < I.il.length) (x : Int) (x0 : 0 ≤ x) : (decodeF (textF ⟨I.ic, I.iw, I.ih, I.it, 0⟩ ++ I.il.set j x)).2 = if x ≤ 100 then 0 else 4 := by
  have hk := imOk_code h
  obtain ⟨_, _, _, _, _, _, t1, _, hl, hx⟩ := h
  rw [decode_row hk (by omega) (by rw [List.length_set]; exact hl)]
  by_cases h1 : x ≤ 100
  · rw [if_pos h1, if_pos]
    intro y hy
    rcases List.mem_or_eq_of_mem_set hy with hy | rfl
    · exact (hx y hy).2
    · omega
  · rw [if_neg h1, if_neg]
    intro q
    have := q x (List.mem_iff_getElem.2 ⟨j, by rw [List.length_set]; exact hj, by simp⟩)
    omega
theorem enc_flat {I : Im} (h : ImOk I) (ht : I.it = 100) : encF I = textF ⟨I.ic, I.iw, I.ih, I.it, 0⟩ ++ I.il := by
  unfold encF
  obtain ⟨_, _, _, _, _, _, t1, _, hl, hx⟩ := h
  rw [pack_small (by omega) _ (fun v hv => by have := hx v hv; omega)]
set_option maxHeartbeats 4000000 in
set_option maxRecDepth 100000 in
theorem samples_main {K : World → Prop} (hKB : KB K) (CP : HParseC K) (CT : HTextC K) (a b c : Int) (xs : List Int) (ad : Option Addr) (cap : Nat) (u : Int) (w : World) (hk : K w) (a0 : 0 ≤ a) (b0 : 0 ≤ b) (c0 : 0 ≤ c) (u0 : 0 ≤ u) (u1 : u ≤ 65535) (hr : RowAt .u16 w ad xs) (hx : ∀ x ∈ xs, 0 ≤ x ∧ x ≤ 65535) (hl : xs.length ≤ maxLen) :
    Calls Tryd.prog 6 #[.int .u16 a, .int .u16 b, .int .u16 c, .slice ad xs.length cap, .int .u16 u] w fun e w' => e = .returned (.bool true) ∧ Below w.heap.size w w' := by
  have CL := fun w hk => plives hKB CP CT w hk
  have CE := fun {w : World} {g h : Nat} {I : Im} (H : ImgAt w g h I) hk => pencode_any hKB CT H hk
  have CD := fun w hr => draw_top a b c 99 xs ad cap w a0 b0 c0 (by omega) (by omega) hr hx hl
  have hKB : ∀ w w', K w → Below w.heap.size w w' → K w' := hKB
  have HR := hide hr
  have q1 : ∀ (g : Nat) (w : World), (binOp .eql 24 (.pointer (some ⟨g, 0, none⟩)) (.pointer none)).run Tryd.prog w = .ok (.bool false) w := fun g w => by kernel_rfl
  have q2 : ∀ (w : World), (binOp .eql 24 (.pointer none) (.pointer none)).run Tryd.prog w = .ok (.bool true) w := fun w => by kernel_rfl
  clear hr hx hl a0 b0 c0 CT
  generalize xs.length = nl at *
  go_enter Tryd.func6, Tryd.ntmps6
  go_upto_region 8 with (first
    | (go_at_call 8; (with_reducible refine (CL _ hk).mono ?_); rintro e w1 ⟨rfl, b1⟩)
    | (go_at_call 13; (with_reducible refine (CD _ (HR.out.below b1)).mono ?_); rintro e w2 ⟨v, I, rfl, ⟨g, h, rfl, gB, hB, hi⟩, i20, j20, itop, b2⟩; have HI := hide hi; have ht : I.it = 100 := (by rw [itop]; rfl); have CM := img_most hi; rw [ht] at CM; have HT := hide ht; clear ht itop hi)
    | (go_at_call 17; (with_reducible refine CM.mono ?_); rintro e w7 ⟨rfl, rfl⟩)
    | (go_at_call 14; (with_reducible refine (CE HI.out (hKB _ _ hk (bt b1 b2))).mono ?_); rintro e w3 ⟨v3, rfl, own3, b3⟩)
    | (go_at_call 18; (with_reducible refine (img_samples (HI.out.below b3)).mono ?_); rintro e w4 ⟨v4, rfl, own4, b4⟩; obtain ⟨ad4, cap4, rfl, _, _⟩ := own4.formn rfl))
  obtain ⟨n0, n1, l0, l1, hin⟩ := enc_small HI.out.ok i20 j20
  have henc := enc_flat HI.out.ok HT.out
  have hds := fun (j : Nat) (hj : j < I.il.length) (x : Int) x0 => dec_set HI.out.ok HT.out hj x x0
  obtain ⟨T, hT⟩ : ∃ T, textF ⟨I.ic, I.iw, I.ih, I.it, 0⟩ = T := ⟨_, rfl⟩
  rw [hT] at henc hds
  rw [henc] at n0 n1 hin own3
  obtain ⟨X, hX⟩ : ∃ X, I.il = X := ⟨_, rfl⟩
  rw [hX] at l0 l1 hds own3 n0 n1 hin own4 ⊢
  obtain ⟨L, hL⟩ : ∃ L, X.length = L := ⟨_, rfl⟩
  obtain ⟨tl, htl⟩ : ∃ tl, T.length = tl := ⟨_, rfl⟩
  have hTX : (T ++ X).length = tl + L := by rw [List.length_append, htl, hL]
  rw [hTX] at n0 n1
  obtain ⟨g3, cap3, rfl, hg3, hl3, _, hc3, _⟩ := own_row own3 hTX (by omega)
  rw [hL] at l0 l1 ⊢
  obtain ⟨j, hjj, hjL⟩ : ∃ j : Nat, u % (L : Int) = (j : Int) ∧ j < L := ⟨(u % (L : Int)).toNat, by
    have := Int.emod_nonneg u (show (L : Int) ≠ 0 by omega)
    omega, by
    have := Int.emod_lt_of_pos u (show (0 : Int) < L by omega)
    have := Int.emod_nonneg u (show (L : Int) ≠ 0 by omega)
    omega⟩
  have hj2 : u.tmod (L : Int) = (j : Int) := by rw [Int.tmod_eq_emod_of_nonneg u0]; exact hjj
  have nz : ((L : Int) == 0) = false := beq_eq_false_iff_ne.2 (by omega)
  have nz' : ((L : Int) != 0) = true := bne_iff_ne.2 (by omega)
  obtain ⟨n, hn⟩ : ∃ n, tl + L = n := ⟨_, rfl⟩
  rw [hn] at hTX n0 n1 hc3 own3 ⊢
  have e1 : (n : Int) - (L : Int) = (tl : Int) := by omega
  have hin2 : ∀ (x : Int), 0 ≤ x → x ≤ 255 → ∀ y ∈ T ++ X.set j x, 0 ≤ y ∧ y ≤ 255 := by
    intro x x0 x1 y hy
    rcases List.mem_append.1 hy with q | q
    · exact hin y (List.mem_append_left _ q)
    · rcases List.mem_or_eq_of_mem_set q with q | rfl
      · exact hin y (List.mem_append_right _ q)
      · exact ⟨x0, x1⟩
  have hlen2 : ∀ x : Int, (T ++ X.set j x).length = n := by
    intro x
    rw [List.length_append, List.length_set, ← hn, htl, hL]
  have hst : ∀ (x y : Int), (T ++ X.set j x).set (tl + j) y = T ++ X.set j y := by
    intro x y
    rw [← htl, set_behind, List.set_set]
  have hst0 : ∀ (y : Int), (T ++ X).set (tl + j) y = T ++ X.set j y := by
    intro y
    rw [← htl, set_behind]
  have d1 := hds j (by rw [hL]; exact hjL) 100 (by omega)
  have d2 := hds j (by rw [hL]; exact hjL) 101 (by omega)
  rw [if_pos (by omega)] at d1
  rw [if_neg (by omega)] at d2
  have CA := fun (x : Int) (x0 : 0 ≤ x) (x1 : x ≤ 255) (W : World) (hk : K W) (hr : RowAt .u8 W (some ⟨g3, 0, none⟩) (T ++ X.set j x)) => pdecode_any CP (T ++ X.set j x) n (hlen2 x) (by omega) (hin2 x x0 x1) (some ⟨g3, 0, none⟩) cap3 hc3 W hk hr (fun e => by cases e)
  have C1 := fun (W : World) (hk : K W) (hr : RowAt .u8 W (some ⟨g3, 0, none⟩) (T ++ X.set j 100)) => (CA 100 (by omega) (by omega) W hk hr).mono fun e w' (hA : DecAns W.heap.size e w' (decodeF (T ++ X.set j 100)) ∧ Below W.heap.size W w') => show (∃ v, e = .returned (.tuple #[v, .int .i64 0])) ∧ Below W.heap.size W w' by
    obtain ⟨hA, hB⟩ := hA
    rcases hA with ⟨h0, _⟩ | ⟨_, v, he, _⟩
    · exact absurd d1 h0
    · exact ⟨⟨v, he⟩, hB⟩
  have C2 := fun (W : World) (hk : K W) (hr : RowAt .u8 W (some ⟨g3, 0, none⟩) (T ++ X.set j 101)) => (CA 101 (by omega) (by omega) W hk hr).mono fun e w' (hA : DecAns W.heap.size e w' (decodeF (T ++ X.set j 101)) ∧ Below W.heap.size W w') => show e = .returned (.tuple #[.pointer none, .int .i64 4]) ∧ Below W.heap.size W w' by
    obtain ⟨hA, hB⟩ := hA
    rcases hA with ⟨_, he⟩ | ⟨h0, _⟩
    · rw [d2] at he
      exact ⟨he, hB⟩
    · rw [d2] at h0
      exact absurd h0 (by decide)
  have hp : tl + j < n := by omega
  have O4 := own3.below b4
  have c4 := O4.cellAt hTX hp
  have z4 := O4.frozenAt hTX (tl + j)
  have O5 := O4.stored hTX (tl + j) 100
  rw [hst0] at O5
  have s1 := b1.size
  have s2 := b2.size
  have hg : w.heap.size ≤ g3 := by omega
  have B5 := bs (bt (bt (bt b1 b2) b3) b4) hg (o := tl + j) (.int .u8 100)
  obtain ⟨_, _, hv5, _, _, r5, _, _⟩ := own_row O5 (hlen2 100) (by omega)
  simp only [Value.slice.injEq, Option.some.injEq, Addr.mk.injEq, and_true, true_and] at hv5
  obtain ⟨rfl, rfl⟩ := hv5
  have HK5 := hide (hKB _ _ hk B5)
  have HO5 := hide O5
  have HR5 := hide r5
  have HB5 := hide B5
  have HLEN := hide hlen2
  have HST := hide hst
  clear hds hin henc hin2 hlen2 hst hst0 d1 d2 CA CP CE CD CL CM own3 own4 O4 O5 B5 r5 hTX hT hX hL htl b1 b2 b3 b4 hg3 hl3 HI HT HR i20 j20 gB hB
  go_wp2_with (first
    | (go_at_call 9; (with_reducible refine (C1 _ HK5.out HR5.out).mono ?_); rintro e w6 ⟨⟨v6, rfl⟩, b6⟩; have O6 := HO5.out.below b6; have c6 := O6.cellAt (HLEN.out 100) hp; have z6 := O6.frozenAt (HLEN.out 100) (tl + j); have O7 := O6.stored (HLEN.out 100) (tl + j) 101; rw [HST.out] at O7; obtain ⟨g7, cap7, hv7, _, _, r7, _, _⟩ := own_row O7 (HLEN.out 101) (by omega); simp only [Value.slice.injEq, Option.some.injEq, Addr.mk.injEq, and_true, true_and] at hv7; obtain ⟨rfl, rfl⟩ := hv7; have HR7 := hide r7; have B7 := bs (bt HB5.out b6) hg (o := tl + j) (.int .u8 101); have HB7 := hide B7; have HK7 := hide (hKB _ _ hk B7); clear r7 O7 O6 B7)
    | (go_at_call 9; (with_reducible refine (C2 _ HK7.out HR7.out).mono ?_); rintro e w8 ⟨rfl, b8⟩))
  go_ret
  exact ⟨rfl, bt HB7.out b8⟩
end Go.Proofs.YtoppojilndnghaaDoor
