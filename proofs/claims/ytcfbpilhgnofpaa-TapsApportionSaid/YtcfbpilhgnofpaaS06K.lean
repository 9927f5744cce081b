/- Weights that come to one: the law on sums and shares. -/
import Derived.Test.YtcfbpilhgnofpaaS06G
import Derived.Deep.LoopGhost
import Derived.Deep.QuietTactic
import Derived.BigQuiet
namespace Go.Proofs.Ytcfbpilhgnofpaa
open Go.RowKit


theorem sum_within {l : List Int} {B : Int} (h : ∀ x ∈ l, -B ≤ x ∧ x ≤ B) : -((l.length : Int) * B) ≤ l.sum ∧ l.sum ≤ (l.length : Int) * B := by
  induction l with
  | nil => simp
  | cons a l ih =>
    have i := ih (fun x hx => h x (by simp [hx]))
    have a0 := h a (by simp)
    rw [List.sum_cons, show ((a :: l).length : Int) = (l.length : Int) + 1 by simp, Int.add_mul, Int.one_mul]
    omega
theorem app_within {l : List Int} (h : Fits l) : ∀ x ∈ appR l, -67108865 ≤ x ∧ x ≤ 67108865 := by
  obtain ⟨len, _, each, _⟩ := app_facts h
  refine getD_mem fun j hj => ?_
  rw [len] at hj
  have q := quotW_small h.s0 (mem_getD h.small hj)
  rcases each j hj with e | ⟨e, _⟩ <;> omega
theorem take_sum (l : List Int) {j : Nat} (h : j < l.length) : (l.take (j + 1)).sum = (l.take j).sum + l.getD j 0 := by
  rw [take_step l h, List.sum_append, List.sum_singleton]
set_option maxHeartbeats 4000000 in
set_option maxRecDepth 1000000 in
theorem of_TapsSum {K : World → Prop} (hKB : ∀ w w', K w → Below w.heap.size w w' → K w') (CA : AppC K) (CG : GauC K)
    (xs : List Int) (ad : Option Addr) (cap : Nat) (w : World) (hk : K w) (hr : RowAt .i64 w ad xs) (hx : AllK .i64 xs) (hl : xs.length ≤ maxLen) (_hz : ad = none → cap = 0) :
    Calls Try.prog 5 #[.slice ad xs.length cap] w fun e w' => e = .returned (.bool true) ∧ Below w.heap.size w w' := by
  unfold maxLen at hl
  have CL := fun w hk => tlives hKB CA CG w hk
  have HX := hide (show All64 xs from fun j hj => allK_i64 hx hj)
  have HR := hide hr
  clear hx hr _hz
  obtain ⟨n, hn⟩ : ∃ n, xs.length = n := ⟨_, rfl⟩
  have HN := hide hn
  rw [hn] at hl ⊢
  clear hn
  by_cases hs : n ≤ 200
  · have C1 := fun ad cap w hk hr => CA xs ad cap w hk hr HX.out (by rw [HN.out]; omega)
    rw [HN.out] at C1
    by_cases hf : Fits xs
    · have e0 := appCode_fits.2 hf
      have e1 : appOut xs = appR xs := by unfold appOut; rw [if_pos e0]
      rw [e0, e1] at C1
      obtain ⟨len, sm, _, ord⟩ := app_facts hf
      obtain ⟨es, _⟩ := sumH_small xs hf.small (by rw [HN.out]; omega)
      have HM := hide (len.trans HN.out)
      have HSM := hide sm
      have HOR := hide ord
      have HF := hide hf
      obtain ⟨S, hS⟩ : ∃ S, sumH xs = S := ⟨_, rfl⟩
      have s0 : 268435456 ≤ S := by rw [← hS]; exact hf.s0
      have s1 : S ≤ 219902325555200 := by
        have := (sumH_small xs hf.small (by rw [HN.out]; omega)).2.2
        rw [HN.out] at this; omega
      have HS := hide hS
      have HES := hide (es.symm.trans hS)
      have HW := hide (app_within hf)
      clear e0 e1 len sm ord es hf CA CG hS
      obtain ⟨ts, hts⟩ : ∃ ts, appR xs = ts := ⟨_, rfl⟩
      have HTS := hide hts
      rw [hts] at C1 HM HSM HOR HW
      clear hts
      go_enter Try.func5, Try.ntmps5
      go_wp2_with (first
        | (go_at_call 9; (with_reducible refine (CL _ hk).mono ?_); rintro e w1 ⟨rfl, b1⟩)
        | (go_at_call 10; (with_reducible refine (C1 _ _ _ (hKB _ _ hk b1) (HR.out.below b1)).mono ?_); rintro e w2 ⟨v2, rfl, q2, b2⟩; have B2 := bt b1 b2; obtain ⟨ad2, cap2, rfl, r2⟩ := q2.formn HM.out))
      have HR2 := hide r2
      have HB := hide B2
      have HRX := hide (HR.out.below B2)
      clear r2 q2 B2 b2 b1 C1 CL
      go_loop [5, 6, 38] (fun a b i => ∃ j : Nat, j ≤ n ∧ i = .int .i64 (j : Int) ∧ a = .int .i64 (xs.take j).sum ∧ b = .int .i64 (ts.take j).sum) (fun _ _ i => n - (intOf i).toNat)
      case atStart => exact ⟨0, by omega, rfl, rfl, rfl⟩
      case round =>
        obtain ⟨j, hj, rfl, rfl, rfl⟩ := hrel
        by_cases hlt : j < n
        · obtain ⟨b, off, rfl, hc⟩ := HRX.out.get (show j < xs.length by rw [HN.out]; exact hlt)
          obtain ⟨b', off', rfl, hc'⟩ := HR2.out.get (show j < ts.length by rw [HM.out]; exact hlt)
          have T1 := hide (take_sum xs (show j < xs.length by rw [HN.out]; exact hlt))
          have T2 := hide (take_sum ts (show j < ts.length by rw [HM.out]; exact hlt))
          have B1 := sum_within (l := xs.take j) (B := 1099511627776) (fun x hx => HF.out.small x (List.mem_of_mem_take hx))
          have B2 := sum_within (l := ts.take j) (B := 67108865) (fun x hx => HW.out x (List.mem_of_mem_take hx))
          rw [List.length_take, HN.out, show min j n = j by omega] at B1
          rw [List.length_take, HM.out, show min j n = j by omega] at B2
          have x0 := mem_getD HF.out.small (show j < xs.length by rw [HN.out]; exact hlt)
          have t0 := mem_getD HW.out (show j < ts.length by rw [HM.out]; exact hlt)
          unfold smallW at x0
          obtain ⟨B10, B11⟩ := B1
          obtain ⟨B20, B21⟩ := B2
          obtain ⟨x0, x1⟩ := x0
          obtain ⟨t0, t1⟩ := t0
          generalize xs.getD j 0 = x at *
          generalize ts.getD j 0 = t at *
          generalize (xs.take j).sum = X at *
          generalize (ts.take j).sum = T at *
          go_wp2
          go_round
          case rel => exact ⟨j + 1, by omega, by go_num, by rw [T1.out], by rw [T2.out]⟩
          case measure => simp [intOf]; omega
        · obtain rfl : j = n := by omega
          have E1 : (xs.take j).sum = S := by rw [List.take_of_length_le (by rw [HN.out]; exact Nat.le_refl _)]; exact HES.out
          have E2 : (ts.take j).sum = 16384 := by rw [List.take_of_length_le (by rw [HM.out]; exact Nat.le_refl _)]; exact HSM.out
          rw [E1, E2]
          clear E1 E2 hlt hj
          go_wp2
          go_loopg [62] j (fun r i wr => ∃ t : Nat, t + r = j ∧ i = .int .i64 (t : Int) ∧ Below w.heap.size w wr ∧ RowAt .i64 wr ad xs ∧ RowAt .i64 wr ad2 ts)
          case atStart => exact ⟨0, by omega, rfl, HB.out, HRX.out, HR2.out⟩
          case round =>
            obtain ⟨t, ht, rfl, hb, ra, rb⟩ := hrel
            have HT := hide ht
            have HB2 := hide hb
            have HA := hide ra
            have HC := hide rb
            obtain ⟨G, hG⟩ : ∃ G, G = gk := ⟨_, rfl⟩
            subst hG
            obtain ⟨W, hW⟩ : ∃ W, W = wr := ⟨_, rfl⟩
            subst hW
            have tj : t ≤ j := by omega
            clear ht hb ra rb
            by_cases hlt : t < j
            · obtain ⟨b, off, rfl, hc⟩ := HA.out.get (show t < xs.length by rw [HN.out]; exact hlt)
              obtain ⟨b', off', rfl, hc'⟩ := HC.out.get (show t < ts.length by rw [HM.out]; exact hlt)
              have sh := app_share HF.out (show t < xs.length by rw [HN.out]; exact hlt)
              rw [HTS.out, HS.out] at sh
              have x0 := mem_getD HF.out.small (show t < xs.length by rw [HN.out]; exact hlt)
              unfold smallW at x0
              obtain ⟨x0, x1⟩ := x0
              obtain ⟨sh0, sh1⟩ := sh
              have OR := fun k (hk : k < xs.length) => HOR.out t k (by rw [HN.out]; exact hlt) hk
              have HO := hide OR
              clear OR
              generalize xs.getD t 0 = x at *
              generalize ts.getD t 0 = T at *
              go_wp2
              go_loopg [87] j (fun r i wi => ∃ u : Nat, u + r = j ∧ i = .int .i64 (u : Int) ∧ Below W.heap.size W wi)
              case atStart => exact ⟨0, by omega, rfl, Below.refl _ _⟩
              case round =>
                obtain ⟨u, hu, rfl, hb⟩ := hrel
                have HU := hide hu
                have HBI := hide hb
                have uj : u ≤ j := by omega
                clear hu hb
                by_cases hlt2 : u < j
                · have c1 := (HA.out.below HBI.out).at (show u < xs.length by rw [HN.out]; exact hlt2)
                  have c2 := (HC.out.below HBI.out).at (show u < ts.length by rw [HM.out]; exact hlt2)
                  have c3 := cb HBI.out (cell_ltL hc') hc'
                  have o := HO.out u (by rw [HN.out]; exact hlt2)
                  by_cases g : xs.getD u 0 < x
                  · have o2 := o g
                    clear o
                    generalize xs.getD u 0 = y at *
                    generalize ts.getD u 0 = Y at *
                    have g2 : decide (y < x) = true := decide_eq_true g
                    have g3 : decide (T < Y) = false := decide_eq_false (by omega)
                    go_wp2_with fail
                    go_quiet (fail)
                    go_wp2
                    go_roundg (gk - 1)
                    case measure => have := HU.out; omega
                    case rel => exact ⟨u + 1, by have := HU.out; omega, by go_num, bdN HBI.out _⟩
                  · clear o
                    generalize xs.getD u 0 = y at *
                    generalize ts.getD u 0 = Y at *
                    have g2 : decide (y < x) = false := decide_eq_false g
                    go_wp2_with fail
                    go_quiet (fail)
                    go_wp2
                    go_roundg (gk - 1)
                    case measure => have := HU.out; omega
                    case rel => exact ⟨u + 1, by have := HU.out; omega, by go_num, bdN HBI.out _⟩
                · obtain rfl : u = j := by omega
                  go_wp2
                  go_roundg (G - 1)
                  case measure => have := HT.out; omega
                  case rel => exact ⟨t + 1, by have := HT.out; omega, by go_num, bt HB2.out HBI.out, HA.out.below HBI.out, HC.out.below HBI.out⟩
            · obtain rfl : t = j := by omega
              go_wp2
              go_ret
              exact ⟨rfl, HB2.out⟩
    · have e0 : appCode xs = 7 ∨ appCode xs = 8 := by
        unfold appCode
        by_cases g : badB xs = true
        · rw [if_pos g]; exact Or.inl rfl
        · rw [if_neg g]
          by_cases g2 : sumH xs < 268435456
          · rw [if_pos g2]; exact Or.inr rfl
          · exfalso
            have : appCode xs = 0 := by unfold appCode; rw [if_neg g, if_neg g2]
            exact hf (appCode_fits.1 this)
      have e1 : appOut xs = [] := by unfold appOut; rw [if_neg (fun q => hf (appCode_fits.1 q))]
      rw [e1] at C1
      generalize appCode xs = code at *
      clear hf e1 CA CG
      rcases e0 with rfl | rfl
      all_goals
        go_enter Try.func5, Try.ntmps5
        go_wp2_with (first
          | (go_at_call 9; (with_reducible refine (CL _ hk).mono ?_); rintro e w1 ⟨rfl, b1⟩)
          | (go_at_call 10; (with_reducible refine (C1 _ _ _ (hKB _ _ hk b1) (HR.out.below b1)).mono ?_); rintro e w2 ⟨v2, rfl, q2, b2⟩; have B2 := bt b1 b2; obtain ⟨ad2, cap2, rfl, r2⟩ := q2.formn (show [].length = 0 from rfl)))
        go_ret
        exact ⟨rfl, B2⟩
  · have hs' : (200 : Int) < (n : Int) := by omega
    clear CA CG
    go_enter Try.func5, Try.ntmps5
    go_wp2_with (first
      | (go_at_call 9; (with_reducible refine (CL _ hk).mono ?_); rintro e w1 ⟨rfl, b1⟩)
      | (go_at_call 9; (with_reducible refine (CL _ (hKB _ _ hk b1)).mono ?_); rintro e w2 ⟨rfl, b2⟩))
    go_ret
    exact ⟨rfl, bt b1 b2⟩
end Go.Proofs.Ytcfbpilhgnofpaa
