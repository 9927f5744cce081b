/- The statement on what is closed. -/
import Derived.Test.YtfecalpfjafecaaS18D
import Derived.Test.YtfecalpfjafecaaLB
namespace Go.Proofs.Ytfecalpfjafecaa
open Go.RowKit


theorem drop_getD {xs : List Int} {j : Nat} (h : j < xs.length) : xs.drop j = xs.getD j 0 :: xs.drop (j + 1) := by
  rw [List.drop_eq_getElem_cons h, List.getD_eq_getElem?_getD, List.getElem?_eq_getElem h]
  rfl
set_option maxHeartbeats 8000000 in
set_option maxRecDepth 100000 in
theorem law_QueueClosed (xs : List Int) (ad : Option Addr) (cap : Nat) (w : World) (hr : RowAt .i64 w ad xs) (_hk : AllK .i64 xs) (hm : xs.length ≤ maxLen) (_hz : ad = none → cap = 0) :
    Calls Try.prog 6 #[.slice ad xs.length cap] w fun e w' => e = .returned (.bool true) ∧ Below w.heap.size w w' := by
  have CL := lives18_any
  obtain ⟨n, hn⟩ : ∃ n, xs.length = n := ⟨_, rfl⟩
  rw [hn] at hm ⊢
  have HR := hide hr
  have HN := hide hn
  clear hr hn _hk _hz
  have hmm : n ≤ 9223372036854775807 := by unfold maxLen at hm; omega
  by_cases h40 : 40 < n
  · have q1 : decide ((40 : Int) < (n : Int)) = true := decide_eq_true (by omega)
    go_enter Try.func6, Try.ntmps6
    go_wp2_with (first
      | (go_at_call 7; (with_reducible refine (CL w).mono ?_); rintro e w1 ⟨rfl, b1⟩; have HB1 := hide b1; clear b1)
      | (go_at_call 7; (with_reducible refine (CL _).mono ?_); rintro e w2 ⟨rfl, b2⟩; have HB2 := hide (bt HB1.out b2); clear b2))
    go_ret
    exact ⟨rfl, HB2.out⟩
  · have q1 : decide ((40 : Int) < (n : Int)) = false := decide_eq_false (by omega)
    have CN := fun (w1 : World) (hb : Below w.heap.size w w1) => law_qnew hb 50 (by decide) (by decide)
    rw [show (roomQ 50).toNat = 50 by decide] at CN
    go_enter Try.func6, Try.ntmps6
    go_wp2_with (first
      | (go_at_call 7; (with_reducible refine (CL w).mono ?_); rintro e w1 ⟨rfl, b1⟩; have HB1 := hide b1; clear b1)
      | (go_at_call 8; (with_reducible refine (CN _ HB1.out).mono ?_); rintro e w2 ⟨q, rfl, l2⟩; have HL2 := hide l2; clear l2))
    go_loopw [23] (fun vk wr => ∃ k : Nat, k ≤ n ∧ vk = .int .i64 (k : Int) ∧ LawQ w wr q 50 (xs.take k) false) (fun vk _ => n - (intOf vk).toNat)
    case atStart => exact ⟨0, by omega, rfl, by simpa using HL2.out⟩
    case round =>
      obtain ⟨k, hk, rfl, hl⟩ := hrel
      have HL := hide hl
      clear hl
      by_cases hlt : k < n
      · obtain ⟨b, off, rfl, hc⟩ := (HR.out.below HL.out.bel).get (j := k) (by rw [HN.out]; exact hlt)
        have CS := law_send_ok (x := xs.getD k 0) HL.out (by rw [List.length_take]; omega)
        rw [← take_step xs (by rw [HN.out]; exact hlt)] at CS
        generalize xs.getD k 0 = x at *
        go_wp2_with (go_at_call 10; (with_reducible refine CS.mono ?_); rintro e w4 ⟨rfl, l4⟩; have HL4 := hide l4; clear l4)
        go_roundw
        case rel => exact ⟨k + 1, by omega, by go_num, HL4.out⟩
        case measure => simp [intOf]; omega
      · obtain rfl : k = n := by omega
        have HF := HL.out
        rw [List.take_of_length_le (by rw [HN.out]; exact Nat.le_refl _)] at HF
        have HF := hide HF
        have C1 := law_qclose HF.out
        have C2 := fun (w5 : World) (l : LawQ w w5 q 50 xs true) => law_qclose l
        have C3 := fun (w5 : World) (l : LawQ w w5 q 50 xs true) => law_send_closed (x := 3) l
        have C4 := fun (w5 : World) (l : LawQ w w5 q 50 xs true) => law_cansend l
        have C5 := fun (w5 : World) (l : LawQ w w5 q 50 xs true) => law_canrec l
        have C6 := fun (w5 : World) (l : LawQ w w5 q 50 xs true) => law_qlist l
        simp only [Bool.true_or] at C4 C5
        clear hlt hk HL
        go_wp2_with (first
          | (go_at_call 17; (with_reducible refine C1.mono ?_); rintro e w4 ⟨rfl, l4⟩; have HL4 := hide l4; clear l4)
          | (go_at_call 17; (with_reducible refine (C2 _ HL4.out).mono ?_); rintro e w5 ⟨rfl, l5⟩; have HL5 := hide l5; clear l5)
          | (go_at_call 10; (with_reducible refine (C3 _ HL5.out).mono ?_); rintro e w6 ⟨rfl, l6⟩; have HL6 := hide l6; clear l6)
          | (go_at_call 9; (with_reducible refine (C4 _ HL6.out).mono ?_); rintro e w7 ⟨rfl, d7⟩; have HL7 := hide (HL6.out.below d7.below); clear d7)
          | (go_at_call 14; (with_reducible refine (C5 _ HL7.out).mono ?_); rintro e w8 ⟨rfl, d8⟩; have HL8 := hide (HL7.out.below d8.below); clear d8)
          | (go_at_call 21; (with_reducible refine (C6 _ HL8.out).mono ?_); rintro e w9 ⟨v9, rfl, o9, b9⟩; have HL9 := hide (HL8.out.below b9); obtain ⟨ad9, cap9, rfl, r9, _⟩ := o9.formn HN.out; have HR9 := hide r9; clear o9 b9 r9)
          | (go_at_call 20; (with_reducible refine (same18_n k xs HN.out _ _ _ _ _ HR9.out (HR.out.below HL9.out.bel) hmm).mono ?_); rintro e w10 ⟨rfl, b10⟩; have HL10 := hide (HL9.out.below b10); clear b10))
        go_loopw [62] (fun vi wi => ∃ i : Nat, i ≤ k ∧ vi = .int .i64 (i : Int) ∧ LawQ w wi q 50 (xs.drop i) true) (fun vi _ => k - (intOf vi).toNat)
        case atStart => exact ⟨0, by omega, rfl, HL10.out⟩
        case round =>
          obtain ⟨i, hi, rfl, hl⟩ := hrel
          have HL := hide hl
          clear hl
          by_cases hlt : i < k
          · obtain ⟨b, off, rfl, hc⟩ := (HR.out.below HL.out.bel).get (j := i) (by rw [HN.out]; exact hlt)
            have hL := HL.out
            rw [drop_getD (by rw [HN.out]; exact hlt)] at hL
            have CR := law_rec_some hL
            clear hL
            generalize xs.getD i 0 = x at *
            go_wp2_with (go_at_call 12; (with_reducible refine CR.mono ?_); rintro e w4 ⟨rfl, l4⟩; have HL4 := hide l4; clear l4)
            go_roundw
            case rel => exact ⟨i + 1, by omega, by go_num, HL4.out⟩
            case measure => simp [intOf]; omega
          · obtain rfl : i = k := by omega
            have HF := HL.out
            rw [List.drop_of_length_le (by rw [HN.out]; exact Nat.le_refl _)] at HF
            have HF := hide HF
            clear hlt hi HL
            go_wp2
            go_loopw [79] (fun vi wi => ∃ j : Nat, j ≤ 3 ∧ vi = .int .i64 (j : Int) ∧ LawQ w wi q 50 [] true) (fun vi _ => 3 - (intOf vi).toNat)
            case atStart => exact ⟨0, by omega, rfl, HF.out⟩
            case round =>
              obtain ⟨j, hj, rfl, hl⟩ := hrel
              have HL := hide hl
              clear hl
              by_cases hlt : j < 3
              · have CR := law_rec_ended HL.out
                go_wp2_with (go_at_call 12; (with_reducible refine CR.mono ?_); rintro e w4 ⟨rfl, l4⟩; have HL4 := hide l4; clear l4)
                go_roundw
                case rel => exact ⟨j + 1, by omega, by go_num, HL4.out⟩
                case measure => simp [intOf]; omega
              · have CN := law_qlen HL.out
                have CC := law_qclosed HL.out
                rw [show ([] : List Int).length = 0 from rfl] at CN
                go_wp2_with (first
                  | (go_at_call 11; (with_reducible refine CN.mono ?_); rintro e w4 ⟨rfl, rfl⟩)
                  | (go_at_call 19; (with_reducible refine CC.mono ?_); rintro e w5 ⟨rfl, rfl⟩))
                go_ret
                exact ⟨rfl, HL.out.bel⟩
end Go.Proofs.Ytfecalpfjafecaa
