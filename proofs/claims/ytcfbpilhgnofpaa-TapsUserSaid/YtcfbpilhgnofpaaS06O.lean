/- Weights that come to one: the law on kernels that are the same from both ends: its walk. -/
import Derived.Test.YtcfbpilhgnofpaaS06N
import Derived.Deep.RegionHeld3
namespace Go.Proofs.Ytcfbpilhgnofpaa
open Go.RowKit


theorem range_64s {l : List Int} (h : ∀ x ∈ l, smallW x) : All64 l := fun j hj => by
  have := mem_getD h hj
  unfold smallW at this; omega
theorem range_64' {l : List Int} (h : ∀ x ∈ l, -999 ≤ x ∧ x ≤ 999) : All64 l := fun j hj => by
  have := mem_getD h hj
  omega
set_option maxHeartbeats 8000000 in
set_option maxRecDepth 1000000 in
theorem of_TapsEven {K : World → Prop} (hKB : ∀ w w', K w → Below w.heap.size w w' → K w') (CA : AppC K) (CG : GauC K) (CU : UserC K) (CZ : SizeC K)
    (xs : List Int) (ad : Option Addr) (cap : Nat) (c : Int) (w : World) (hk : K w) (hr : RowAt .i32 w ad xs) (hx : AllK .i32 xs) (hl : xs.length ≤ maxLen) (_hz : ad = none → cap = 0) (hc : -2147483648 ≤ c ∧ c ≤ 2147483647) :
    Calls Try.prog 8 #[.slice ad xs.length cap, .int .i32 c] w fun e w' => e = .returned (.bool true) ∧ Below w.heap.size w w' := by
  unfold maxLen at hl
  have CL := fun w hk => tlives hKB CA CG w hk
  obtain ⟨i0, hi, hz0, hz1, hz2⟩ := info_parts infoI64A
  have HX := hide hx
  have HR := hide hr
  clear hx hr _hz CG
  obtain ⟨c0, c1⟩ := hc
  obtain ⟨n, hn⟩ : ∃ n, xs.length = n := ⟨_, rfl⟩
  have HN := hide hn
  rw [hn] at hl ⊢
  clear hn
  by_cases hs : n ≤ 40
  · have HCA := hide CA
    have HCU := hide CU
    have HCZ := hide CZ
    clear CA CU CZ
    go_enter Try.func8, Try.ntmps8
    go_wp2_with (first
      | (go_at_call 9; (with_reducible refine (CL _ hk).mono ?_); rintro e w1 ⟨rfl, bw1⟩))
    clear CL
    go_loopw [5, 6] (fun u i wr => ∃ j : Nat, j ≤ n ∧ i = .int .i64 ((n : Int) - 1 - (j : Int)) ∧ OwnI .i64 2 wr w.heap.size u ((modL xs).reverse.take j) ∧ Below w.heap.size w wr) (fun _ i _ => (intOf i + 1).toNat)
    case atStart => exact ⟨0, by omega, by simp, OwnI.nil _ _ _ _, bw1⟩
    case round =>
      obtain ⟨j, hj, rfl, ho, hb⟩ := hrel
      have HO := hide ho
      have HB := hide hb
      clear ho hb bw1
      by_cases hlt : j < n
      · obtain ⟨t, ht⟩ : ∃ t : Nat, (n : Int) - 1 - (j : Int) = (t : Int) := ⟨n - 1 - j, by omega⟩
        have tn : t < n := by omega
        obtain ⟨bb, off, rfl, hcc⟩ := (HR.out.below HB.out).get (show t < xs.length by rw [HN.out]; exact tn)
        obtain ⟨x0, x1⟩ := allK_i32 HX.out (show t < xs.length by rw [HN.out]; exact tn)
        have HT := hide (show (modL xs).reverse.take (j + 1) = (modL xs).reverse.take j ++ [(xs.getD t 0).tmod 1000] by
          rw [take_step _ (by rw [List.length_reverse, modL_len, HN.out]; exact hlt), modL_rev xs (by rw [HN.out]; exact hlt), HN.out, show n - 1 - j = t by omega])
        have HL := hide (show ((modL xs).reverse.take j).length = j by rw [List.length_take, List.length_reverse, modL_len]; have := HN.out; omega)
        have m0 := Int.lt_tmod_of_pos (xs.getD t 0) (show (0 : Int) < 1000 by omega)
        have m1 := Int.tmod_lt_of_pos (xs.getD t 0) (show (0 : Int) < 1000 by omega)
        generalize xs.getD t 0 = x at *
        rw [ht]
        have HTE := hide ht
        clear ht
        go_wp2_with (at_builtin; refine wpList_append_own _ rfl _ _ 22 rfl w.heap.size 2 i0 (.int .i64 0) 1 8 Try.underlying22 hi hz0 hz1 hz2 rfl (by decide) _ _ _ rfl (HO.out.alloc _) ⟨wr.heap.size, 0, none⟩ 1 1 [.int .i64 (x.tmod 1000)] rfl rfl (new_one _ _ _) (one_int _ _) (by rw [HL.out]; unfold maxLen; omega) (by rw [HL.out]; omega) (by have := HB.out.size; simp; omega) ?_; intro u' w3 own3 grow3 _)
        have R := hide (own_more HB.out HO.out own3 grow3)
        clear own3 grow3
        go_wp2
        go_roundw
        case rel => exact ⟨j + 1, by omega, by rw [show (n : Int) - 1 - ((j + 1 : Nat) : Int) = (t : Int) - 1 by have := HTE.out; omega], by rw [HT.out]; exact R.out.1, R.out.2⟩
        case measure => simp [intOf]
      · obtain rfl : j = n := by omega
        have et : (modL xs).reverse.take j = (modL xs).reverse := List.take_of_length_le (by rw [List.length_reverse, modL_len, HN.out]; exact Nat.le_refl _)
        have OW := HO.out
        rw [et] at OW
        have HO2 := hide OW
        have m0 := Int.lt_tmod_of_pos c (show (0 : Int) < 1000 by omega)
        have m1 := Int.tmod_lt_of_pos c (show (0 : Int) < 1000 by omega)
        have HL := hide (show (modL xs).reverse.length = j by rw [List.length_reverse, modL_len]; exact HN.out)
        rw [show (j : Int) - 1 - (j : Int) = -1 by omega]
        clear et OW HO hlt hj
        go_wp2_with (at_builtin; refine wpList_append_own _ rfl _ _ 22 rfl w.heap.size 2 i0 (.int .i64 0) 1 8 Try.underlying22 hi hz0 hz1 hz2 rfl (by decide) _ _ _ rfl (HO2.out.alloc _) ⟨wr.heap.size, 0, none⟩ 1 1 [.int .i64 (c.tmod 1000)] rfl rfl (new_one _ _ _) (one_int _ _) (by rw [HL.out]; unfold maxLen; omega) (by rw [HL.out]; omega) (by have := HB.out.size; simp; omega) ?_; intro u' w3 own3 grow3 _)
        obtain ⟨O3, B3⟩ := own_more HB.out HO2.out own3 grow3
        have HO3 := hide O3
        have HB3 := hide B3
        clear own3 grow3 HO2 HB O3 B3 HL
        go_wp2
        go_loopw [5, 48] (fun u i wr => ∃ t : Nat, t ≤ j ∧ i = .int .i64 (t : Int) ∧ OwnI .i64 2 wr w.heap.size u ((modL xs).reverse ++ [c.tmod 1000] ++ (modL xs).take t) ∧ Below w.heap.size w wr) (fun _ i _ => j - (intOf i).toNat)
        case atStart => exact ⟨0, by omega, rfl, by simpa using HO3.out, HB3.out⟩
        case round =>
          obtain ⟨t, ht, rfl, ho, hb⟩ := hrel
          have HO := hide ho
          have HB := hide hb
          clear ho hb HO3 HB3
          by_cases hlt : t < j
          · obtain ⟨bb, off, rfl, hcc⟩ := (HR.out.below HB.out).get (show t < xs.length by rw [HN.out]; exact hlt)
            obtain ⟨x0, x1⟩ := allK_i32 HX.out (show t < xs.length by rw [HN.out]; exact hlt)
            have HT := hide (show (modL xs).reverse ++ [c.tmod 1000] ++ (modL xs).take (t + 1) = ((modL xs).reverse ++ [c.tmod 1000] ++ (modL xs).take t) ++ [(xs.getD t 0).tmod 1000] by
              rw [take_step _ (by rw [modL_len, HN.out]; exact hlt), modL_get xs (by rw [HN.out]; exact hlt)]; simp)
            have HL := hide (show ((modL xs).reverse ++ [c.tmod 1000] ++ (modL xs).take t).length = j + 1 + t by simp [modL_len]; have := HN.out; omega)
            have q0 := Int.lt_tmod_of_pos (xs.getD t 0) (show (0 : Int) < 1000 by omega)
            have q1 := Int.tmod_lt_of_pos (xs.getD t 0) (show (0 : Int) < 1000 by omega)
            generalize xs.getD t 0 = x at *
            go_wp2_with (at_builtin; refine wpList_append_own _ rfl _ _ 22 rfl w.heap.size 2 i0 (.int .i64 0) 1 8 Try.underlying22 hi hz0 hz1 hz2 rfl (by decide) _ _ _ rfl (HO.out.alloc _) ⟨wr.heap.size, 0, none⟩ 1 1 [.int .i64 (x.tmod 1000)] rfl rfl (new_one _ _ _) (one_int _ _) (by rw [HL.out]; unfold maxLen; omega) (by rw [HL.out]; omega) (by have := HB.out.size; simp; omega) ?_; intro u' w3 own3 grow3 _)
            have R := hide (own_more HB.out HO.out own3 grow3)
            clear own3 grow3
            go_wp2
            go_roundw
            case rel => exact ⟨t + 1, by omega, by go_num, by rw [HT.out]; exact R.out.1, R.out.2⟩
            case measure => simp [intOf]; omega
          · obtain rfl : t = j := by omega
            have OW := HO.out
            rw [List.take_of_length_le (show (modL xs).length ≤ t by rw [modL_len, HN.out]; exact Nat.le_refl _)] at OW
            have EL := (evenK_len xs c).trans (show 2 * xs.length + 1 = 2 * t + 1 by rw [HN.out])
            obtain ⟨ad2, cap2, rfl, r2, _⟩ := OwnI.formn (xs := evenK xs c) OW EL
            have C1 := fun w hk hr => HCU.out (evenK xs c) ad2 cap2 w hk hr (range_64' (evenK_in xs c)) (by rw [EL]; omega)
            have C2 := fun w hk hr => HCZ.out (evenK xs c) ad2 cap2 w hk hr (range_64' (evenK_in xs c)) (by rw [EL]; omega)
            rw [EL] at C1 C2
            have R2 := hide r2
            have FC := even_facts xs c (by rw [HN.out]; exact hs)
            rw [HN.out] at FC
            clear OW EL r2 HO hlt ht
            generalize evenK xs c = ks at *
            rcases FC with ⟨e1, e2, e3⟩ | ⟨e1, e2, e3, e4⟩
            · rw [e1, e2] at C1
              rw [e3] at C2
              clear e1 e2 e3
              go_wp2_with (first
                | (go_at_call 17; (with_reducible refine (C1 _ (hKB _ _ hk HB.out) R2.out).mono ?_); rintro e w4 ⟨v4, rfl, q4, b4⟩; have B4 := bt HB.out b4; obtain ⟨ad4, cap4, rfl, r4⟩ := q4.formn (show [].length = 0 from rfl))
                | (go_at_call 15; (with_reducible refine (C2 _ (hKB _ _ hk B4) (R2.out.below b4)).mono ?_); rintro e w5 ⟨rfl, b5⟩; have B5 := bt B4 b5))
              go_ret
              exact ⟨rfl, B5⟩
            · rw [e1] at C1
              generalize userOut ks = ws at *
              obtain ⟨m, hm⟩ : ∃ m, 2 * t + 1 = m := ⟨_, rfl⟩
              rw [hm] at e2
              have m0 : 1 ≤ m := by omega
              have m1 : m ≤ 81 := by omega
              have HM := hide e2
              have HEV := hide e3
              have C3 := fun ad cap w hk hr => HCA.out ws ad cap w hk hr (range_64s e4) (by rw [HM.out]; omega)
              rw [HM.out] at C3
              have FT := even_taps e3 e4 (by rw [HM.out]; omega) (by rw [HM.out]; omega)
              rw [HM.out] at FT
              have HFT := hide FT
              clear e1 e2 e3 e4 FT C2 hm
              go_wp2_with (go_at_call 17; (with_reducible refine (C1 _ (hKB _ _ hk HB.out) R2.out).mono ?_); rintro e w4 ⟨v4, rfl, q4, b4⟩; have B4 := bt HB.out b4; obtain ⟨ad4, cap4, rfl, r4⟩ := q4.formn HM.out)
              have R4 := hide r4
              have HB4 := hide B4
              clear C1 q4 b4 B4 r4 R2
              go_loopw [86] (fun i wr => ∃ u : Nat, u ≤ m ∧ i = .int .i64 (u : Int) ∧ Below w4.heap.size w4 wr) (fun i _ => m - (intOf i).toNat)
              case atStart => exact ⟨0, by omega, rfl, Below.refl _ _⟩
              case round =>
                obtain ⟨u, hu, rfl, hb⟩ := hrel
                have HB5 := hide hb
                clear hb
                by_cases hlt : u < m
                · obtain ⟨p, hp⟩ : ∃ p : Nat, m - 1 - u = p := ⟨_, rfl⟩
                  obtain ⟨bb, off, rfl, c1⟩ := (R4.out.below HB5.out).get (show u < ws.length by rw [HM.out]; exact hlt)
                  have c2 := (R4.out.below HB5.out).at (show p < ws.length by rw [HM.out]; omega)
                  have ev := HEV.out u (by rw [HM.out]; exact hlt)
                  rw [HM.out, hp] at ev
                  rw [← ev] at c2
                  generalize ws.getD u 0 = x at c1 c2
                  have wr1 : IntKind.i64.wrap ((m : Int) - 1) = (m : Int) - 1 := by rw [IntKind.wrap_i64]; omega
                  have wr2 : IntKind.i64.wrap ((m : Int) - 1 - (u : Int)) = (p : Int) := by rw [IntKind.wrap_i64]; omega
                  have hlt1 : (u : Int) < (m : Int) := by omega
                  have hp3 : (p : Int) < (m : Int) := by omega
                  clear ev
                  go_wp2_with fail
                  go_region_held3 (fun w' => w'.cell? ⟨bb, off + u, none⟩ = some (.int .i64 x) ∧ w'.cell? ⟨bb, off + p, none⟩ = some (.int .i64 x))
                    (first | exact ⟨c1, c2⟩)
                    (first | fail)
                  go_wp2
                  go_roundw
                  case rel =>
                    refine ⟨u + 1, by omega, by go_num, ?_⟩
                    repeat (first | exact HB5.out | with_reducible refine bd ?_ | with_reducible refine bdN ?_ _)
                  case measure => simp [intOf]; omega
                · obtain rfl : u = m := by omega
                  have B6 := bt HB4.out HB5.out
                  have R6 := hide (R4.out.below HB5.out)
                  clear hlt hu
                  rcases HFT.out with ⟨f1, f2⟩ | ⟨f1, f2, f3⟩
                  · rw [f1, f2] at C3
                    clear f1 f2
                    go_wp2_with (go_at_call 10; (with_reducible refine (C3 _ _ _ (hKB _ _ hk B6) R6.out).mono ?_); rintro e w7 ⟨v7, rfl, q7, b7⟩; have B7 := bt B6 b7; obtain ⟨ad7, cap7, rfl, r7⟩ := q7.formn (show [].length = 0 from rfl))
                    go_ret
                    exact ⟨rfl, B7⟩
                  · rw [f1] at C3
                    have HM2 := hide f2
                    have HF3 := hide f3
                    clear f1 f2 f3
                    generalize appOut ws = ts at *
                    go_wp2_with (go_at_call 10; (with_reducible refine (C3 _ _ _ (hKB _ _ hk B6) R6.out).mono ?_); rintro e w7 ⟨v7, rfl, q7, b7⟩; have B7 := bt B6 b7; obtain ⟨ad7, cap7, rfl, r7⟩ := q7.formn HM2.out)
                    have R7 := hide r7
                    have HB7 := hide B7
                    clear C3 q7 b7 B7 B6 r7 R6 HB5 HB4
                    go_loopw [119] (fun i wr => ∃ v : Nat, v ≤ u ∧ i = .int .i64 (v : Int) ∧ Below w7.heap.size w7 wr) (fun i _ => u - (intOf i).toNat)
                    case atStart => exact ⟨0, by omega, rfl, Below.refl _ _⟩
                    case round =>
                      obtain ⟨v, hv, rfl, hb⟩ := hrel
                      have HB5 := hide hb
                      clear hb
                      by_cases hlt : v < u
                      · obtain ⟨p, hp⟩ : ∃ p : Nat, u - 1 - v = p := ⟨_, rfl⟩
                        obtain ⟨bb, off, rfl, c1⟩ := (R7.out.below HB5.out).get (show v < ts.length by rw [HM2.out]; exact hlt)
                        have c2 := (R7.out.below HB5.out).at (show p < ts.length by rw [HM2.out]; omega)
                        have ev := HF3.out v hlt
                        rw [hp] at ev
                        obtain ⟨d1, d0⟩ := ev
                        generalize ts.getD v 0 = x at c1 d1 d0
                        generalize ts.getD p 0 = y at c2 d1 d0
                        have wr1 : IntKind.i64.wrap ((u : Int) - 1) = (u : Int) - 1 := by rw [IntKind.wrap_i64]; omega
                        have wr2 : IntKind.i64.wrap ((u : Int) - 1 - (v : Int)) = (p : Int) := by rw [IntKind.wrap_i64]; omega
                        have wr3 : IntKind.i64.wrap (x - y) = x - y := by rw [IntKind.wrap_i64]; omega
                        have hlt1 : (v : Int) < (u : Int) := by omega
                        have hp3 : (p : Int) < (u : Int) := by omega
                        go_wp2_with fail
                        go_region_held3 (fun w' => w'.cell? ⟨bb, off + v, none⟩ = some (.int .i64 x) ∧ w'.cell? ⟨bb, off + p, none⟩ = some (.int .i64 y))
                          (first | exact ⟨c1, c2⟩)
                          (first | fail)
                        go_wp2
                        go_roundw
                        case rel =>
                          refine ⟨v + 1, by omega, by go_num, ?_⟩
                          repeat (first | exact HB5.out | with_reducible refine bd ?_ | with_reducible refine bdN ?_ _)
                        case measure => simp [intOf]; omega
                      · obtain rfl : v = u := by omega
                        go_wp2
                        go_ret
                        exact ⟨rfl, bt HB7.out HB5.out⟩
  · have hs' : (40 : Int) < (n : Int) := by omega
    clear CA CU CZ
    go_enter Try.func8, Try.ntmps8
    go_wp2_with (first
      | (go_at_call 9; (with_reducible refine (CL _ hk).mono ?_); rintro e w1 ⟨rfl, b1⟩)
      | (go_at_call 9; (with_reducible refine (CL _ (hKB _ _ hk b1)).mono ?_); rintro e w2 ⟨rfl, b2⟩))
    go_ret
    exact ⟨rfl, bt b1 b2⟩
end Go.Proofs.Ytcfbpilhgnofpaa
