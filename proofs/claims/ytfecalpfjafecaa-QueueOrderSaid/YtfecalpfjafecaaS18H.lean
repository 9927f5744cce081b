/- The statement on order. -/
import Derived.Test.YtfecalpfjafecaaS18F
namespace Go.Proofs.Ytfecalpfjafecaa
open Go.RowKit


set_option maxHeartbeats 8000000 in
set_option maxRecDepth 100000 in
theorem law_QueueOrder (a : Int) (B : List Bool) (ad : Option Addr) (cap : Nat) (w : World) (ha : 0 ≤ a ∧ a ≤ 255) (hB : BoolsAt w ad B) (hm : B.length ≤ maxLen) (_hz : ad = none → cap = 0) :
    Calls Try.prog 5 #[.int .u8 a, .slice ad B.length cap] w fun e w' => e = .returned (.bool true) ∧ Below w.heap.size w w' := by
  have CL := lives18_any
  obtain ⟨n, hn⟩ : ∃ n, B.length = n := ⟨_, rfl⟩
  rw [hn] at hm ⊢
  have HR := hide hB
  have HN := hide hn
  clear hB hn _hz
  have hmm : n ≤ 9223372036854775807 := by unfold maxLen at hm; omega
  by_cases h200 : 200 < n
  · have q1 : decide ((200 : Int) < (n : Int)) = true := decide_eq_true (by omega)
    go_enter Try.func5, Try.ntmps5
    go_wp2_with (first
      | (go_at_call 7; (with_reducible refine (CL w).mono ?_); rintro e w1 ⟨rfl, b1⟩; have HB1 := hide b1; clear b1)
      | (go_at_call 7; (with_reducible refine (CL _).mono ?_); rintro e w2 ⟨rfl, b2⟩; have HB2 := hide (bt HB1.out b2); clear b2))
    go_ret
    exact ⟨rfl, HB2.out⟩
  · have q1 : decide ((200 : Int) < (n : Int)) = false := decide_eq_false (by omega)
    obtain ⟨m, hm⟩ : ∃ m : Nat, a % 9 = (m : Int) := ⟨(a % 9).toNat, by omega⟩
    have hm2 : m ≤ 8 := by omega
    have tm : a.tmod 9 = (m : Int) := by rw [Int.tmod_eq_emod_of_nonneg ha.1]; exact hm
    obtain ⟨K, hK⟩ : ∃ K, K = m + 1 := ⟨_, rfl⟩
    have CN := fun (w1 : World) (hb : Below w.heap.size w w1) => law_qnew hb (1 + (m : Int)) (by omega) (by omega)
    rw [show (1 + (m : Int)) = (K : Int) by omega, roomQ_nat (by omega) (by omega), show (K : Int) = 1 + (m : Int) by omega] at CN
    have k1 : K ≤ 9 := by omega
    have k2 : 1 ≤ K := by omega
    clear hm hK
    go_enter Try.func5, Try.ntmps5
    go_wp2_with (first
      | (go_at_call 7; (with_reducible refine (CL w).mono ?_); rintro e w1 ⟨rfl, b1⟩; have HB1 := hide b1; clear b1)
      | (go_at_call 8; (with_reducible refine (CN _ HB1.out).mono ?_); rintro e w2 ⟨q, rfl, l2⟩; have HL2 := hide l2; clear l2))
    go_loopw [6, 7, 32] (fun vs vg vk wr => ∃ (k s g d : Nat), k ≤ n ∧ vk = .int .i64 (k : Int) ∧ vs = .int .i64 (s : Int) ∧ vg = .int .i64 (g : Int) ∧ s ≤ k ∧ Hid (s = g + d) ∧ LawQ w wr q K (rngQ (g : Int) d) false) (fun _ _ vk _ => n - (intOf vk).toNat)
    case atStart => exact ⟨0, 0, 0, 0, by omega, rfl, rfl, rfl, by omega, rfl, HL2.out⟩
    case round =>
      obtain ⟨k, s, g, d, hk, rfl, rfl, rfl, hsk, HS, hl⟩ := hrel
      have HL := hide hl
      have hgs : g ≤ s := by have := HS.out; omega
      have hle := hl.len.1
      rw [rngQ_len] at hle
      clear hl
      by_cases hlt : k < n
      · obtain ⟨b, off, rfl, hc⟩ := (HR.out.below HL.out.bel).get (j := k) (by rw [HN.out]; exact hlt)
        cases hbb : B.getD k false
        · rw [hbb] at hc
          clear hbb
          cases d with
          | zero =>
            have CR := law_rec_blocked HL.out
            have q2 : s ≤ g := by have := HS.out; omega
            go_wp2_with (go_at_call 12; (with_reducible refine CR.mono ?_); rintro e w4 ⟨rfl, l4⟩; have HL4 := hide l4; clear l4)
            go_roundw
            case rel => exact ⟨k + 1, s, g, 0, by omega, by go_num, rfl, rfl, by omega, HS, HL4.out⟩
            case measure => simp [intOf]; omega
          | succ d =>
            have CR := law_rec_some (w0 := w) (w := wr) (q := q) (room := K) (cl := false) (x := (g : Int)) (L := rngQ ((g : Int) + 1) d) HL.out
            have q2 : g < s := by have := HS.out; omega
            have HG := hide (show g + 1 ≤ s by have := HS.out; omega)
            go_wp2_with (go_at_call 12; (with_reducible refine CR.mono ?_); rintro e w4 ⟨rfl, l4⟩; have HL4 := hide l4; clear l4)
            go_roundw
            case rel => exact ⟨k + 1, s, g + 1, d, by omega, by go_num, rfl, by go_num, by omega, (show s = g + 1 + d by have := HS.out; omega), HL4.out⟩
            case measure => simp [intOf]; omega
        · rw [hbb] at hc
          clear hbb
          have CO := fun (w5 : World) (d : Nat) (l : LawQ w w5 q K (rngQ (g : Int) d) false) => law_qroom l
          by_cases hd : d < K
          · have CS := law_send_ok (x := (s : Int)) HL.out (by rw [rngQ_len]; exact hd)
            rw [show (s : Int) = (g : Int) + (d : Int) by have := HS.out; omega, rngQ_snoc, show (g : Int) + (d : Int) = (s : Int) by have := HS.out; omega] at CS
            have q2 : decide ((s : Int) - (g : Int) < (K : Int)) = true := decide_eq_true (by have := HS.out; omega)
            have hs200 : s ≤ 200 := by omega
            go_wp2_with (first
              | (go_at_call 10; (with_reducible refine CS.mono ?_); rintro e w4 ⟨rfl, l4⟩; have HL4 := hide l4; clear l4)
              | (go_at_call 13; (with_reducible refine (CO _ _ HL4.out).mono ?_); rintro e w5 ⟨rfl, rfl⟩))
            go_roundw
            case rel => exact ⟨k + 1, s + 1, g, d + 1, by omega, by go_num, by go_num, rfl, by omega, (show s + 1 = g + (d + 1) by have := HS.out; omega), HL4.out⟩
            case measure => simp [intOf]; omega
          · have CS := law_send_full (x := (s : Int)) HL.out (by rw [rngQ_len]; exact hd)
            have q2 : decide ((s : Int) - (g : Int) < (K : Int)) = false := decide_eq_false (by have := HS.out; omega)
            have hs200 : s ≤ 200 := by omega
            go_wp2_with (first
              | (go_at_call 10; (with_reducible refine CS.mono ?_); rintro e w4 ⟨rfl, l4⟩; have HL4 := hide l4; clear l4)
              | (go_at_call 13; (with_reducible refine (CO _ _ HL4.out).mono ?_); rintro e w5 ⟨rfl, rfl⟩))
            go_roundw
            case rel => exact ⟨k + 1, s, g, d, by omega, by go_num, rfl, rfl, by omega, HS, HL4.out⟩
            case measure => simp [intOf]; omega
      · obtain rfl : k = n := by omega
        have CC := law_qclose HL.out
        have hs200 : s ≤ 200 := by omega
        clear hlt hk
        go_wp2_with (go_at_call 17; (with_reducible refine CC.mono ?_); rintro e w4 ⟨rfl, l4⟩; have HL4 := hide l4; clear l4)
        go_loopw [7] (fun vg wi => ∃ (g d : Nat), vg = .int .i64 (g : Int) ∧ Hid (s = g + d) ∧ LawQ w wi q K (rngQ (g : Int) d) true) (fun vg _ => s - (intOf vg).toNat)
        case atStart => exact ⟨g, d, rfl, HS, HL4.out⟩
        case round =>
          clear HS hgs hle HL CC HL4
          obtain ⟨g, d, rfl, HS, hl⟩ := hrel
          have HL := hide hl
          clear hl
          cases d with
          | zero =>
            have q2 : s ≤ g := by have := HS.out; omega
            have CR := law_rec_ended HL.out
            have CS := fun (w5 : World) (l : LawQ w w5 q K [] true) => law_send_closed (x := 1) l
            go_wp2_with (first
              | (go_at_call 12; (with_reducible refine CR.mono ?_); rintro e w4 ⟨rfl, l4⟩; have HL4 := hide l4; clear l4)
              | (go_at_call 10; (with_reducible refine (CS _ HL4.out).mono ?_); rintro e w5 ⟨rfl, l5⟩; have HL5 := hide l5; clear l5))
            go_ret
            exact ⟨rfl, HL5.out.bel⟩
          | succ d =>
            have q2 : g < s := by have := HS.out; omega
            have CR := law_rec_some (w0 := w) (w := wr) (q := q) (room := K) (cl := true) (x := (g : Int)) (L := rngQ ((g : Int) + 1) d) HL.out
            have hg1 : g + 1 ≤ s := by have := HS.out; omega
            go_wp2_with (go_at_call 12; (with_reducible refine CR.mono ?_); rintro e w4 ⟨rfl, l4⟩; have HL4 := hide l4; clear l4)
            go_roundw
            case rel => exact ⟨g + 1, d, by go_num, (show s = g + 1 + d by have := HS.out; omega), HL4.out⟩
            case measure => simp [intOf]; omega
end Go.Proofs.Ytfecalpfjafecaa
