/- The statement on room. -/
import Derived.Test.YtfecalpfjafecaaS18D
import Derived.Test.YtfecalpfjafecaaS18E
namespace Go.Proofs.Ytfecalpfjafecaa
open Go.RowKit


theorem roomQ_nat {r : Nat} (h1 : 1 ≤ r) (h2 : r ≤ 4096) : (roomQ (r : Int)).toNat = r := by unfold roomQ; split <;> (try split) <;> omega
set_option maxHeartbeats 8000000 in
theorem law_QueueFull (a b : Int) (w : World) (ha : 0 ≤ a ∧ a ≤ 255) (hb : 0 ≤ b ∧ b ≤ 255) :
    Calls Try.prog 3 #[.int .u8 a, .int .u8 b] w fun e w' => e = .returned (.bool true) ∧ Below w.heap.size w w' := by
  obtain ⟨m, hm⟩ : ∃ m : Nat, a % 40 = (m : Int) := ⟨(a % 40).toNat, by omega⟩
  obtain ⟨n, hn⟩ : ∃ n : Nat, b % 40 = (n : Int) := ⟨(b % 40).toNat, by omega⟩
  have hm2 : m ≤ 39 := by omega
  have hn2 : n ≤ 39 := by omega
  have tm : a.tmod 40 = (m : Int) := by rw [Int.tmod_eq_emod_of_nonneg ha.1]; exact hm
  have tn : b.tmod 40 = (n : Int) := by rw [Int.tmod_eq_emod_of_nonneg hb.1]; exact hn
  obtain ⟨K, hK⟩ : ∃ K, K = m + 1 := ⟨_, rfl⟩
  have CL := lives18_any w
  have CN := fun (w1 : World) (hb : Below w.heap.size w w1) => law_qnew hb (1 + (m : Int)) (by omega) (by omega)
  rw [show (1 + (m : Int)) = (K : Int) by omega, roomQ_nat (by omega) (by omega), show (K : Int) = 1 + (m : Int) by omega] at CN
  have k1 : K ≤ m + 1 := by omega
  have k2 : m + 1 ≤ K := by omega
  have q1 : ((K : Int) == 1 + (m : Int)) = true := by rw [beq_iff_eq]; omega
  have q2 : decide ((K : Int) < 1 + (m : Int)) = false := decide_eq_false (by omega)
  clear hm hn hK
  go_enter Try.func3, Try.ntmps3
  go_wp2_with (first
    | (go_at_call 7; (with_reducible refine CL.mono ?_); rintro e w1 ⟨rfl, b1⟩; have HB1 := hide b1; clear b1)
    | (go_at_call 8; (with_reducible refine (CN _ HB1.out).mono ?_); rintro e w2 ⟨q, rfl, l2⟩; have HL2 := hide l2; clear l2))
  go_loopw [20] (fun vk wr => ∃ k : Nat, k ≤ K ∧ vk = .int .i64 (k : Int) ∧ LawQ w wr q K (rngQ 0 k) false) (fun vk _ => K - (intOf vk).toNat)
  case atStart => exact ⟨0, by omega, rfl, HL2.out⟩
  case round =>
    obtain ⟨k, hk, rfl, hl⟩ := hrel
    have HL := hide hl
    clear hl
    by_cases hlt : k < K
    · have h1 : (k : Int) < 1 + (m : Int) := by omega
      have CC := law_cansend HL.out
      rw [rngQ_len, decide_eq_true hlt, Bool.or_true] at CC
      have CS := fun (n : Nat) => law_send_ok (x := (k : Int)) (HL.out.drewN n) (by rw [rngQ_len]; exact hlt)
      have e0 := rngQ_snoc 0 k
      rw [Int.zero_add] at e0
      rw [e0] at CS
      clear e0
      go_wp2_with (first
        | (go_at_call 9; (with_reducible refine CC.mono ?_); rintro e w3 ⟨rfl, ⟨m3, rfl⟩⟩)
        | (go_at_call 10; (with_reducible refine (CS _).mono ?_); rintro e w4 ⟨rfl, l4⟩; have HL4 := hide l4; clear l4))
      go_roundw
      case rel => exact ⟨k + 1, by omega, by go_num, HL4.out⟩
      case measure => simp [intOf]; omega
    · obtain rfl : k = K := by omega
      clear hlt hk
      go_wp2
      go_loopw [36] (fun vi wi => ∃ i : Nat, i ≤ n ∧ vi = .int .i64 (i : Int) ∧ LawQ w wi q k (rngQ (i : Int) k) false) (fun vi _ => n - (intOf vi).toNat)
      case atStart => exact ⟨0, by omega, rfl, HL.out⟩
      case round =>
        obtain ⟨i, hi, rfl, hl2⟩ := hrel
        have HI := hide hl2
        clear hl2
        by_cases hin : i < n
        · have CC := law_cansend HI.out
          rw [rngQ_len, decide_eq_false (Nat.lt_irrefl _), Bool.or_false] at CC
          have CF := fun (n : Nat) => law_send_full (x := 0) (HI.out.drewN n) (by rw [rngQ_len]; exact Nat.lt_irrefl _)
          have CN2 := fun (w5 : World) (l : LawQ w w5 q k (rngQ (i : Int) k) false) => law_qlen l
          rw [rngQ_len] at CN2
          have CR := fun (w5 : World) (l : LawQ w w5 q k (rngQ (i : Int) k) false) => law_rec_some (w0 := w) (w := w5) (q := q) (room := k) (cl := false) (x := (i : Int)) (L := rngQ ((i : Int) + 1) m) (by rw [show rngQ (i : Int) k = rngQ (i : Int) (m + 1) by rw [show k = m + 1 by omega]] at l; exact l)
          have CS := fun (w5 : World) (l : LawQ w w5 q k (rngQ ((i : Int) + 1) m) false) => law_send_ok (x := 1 + (m : Int) + (i : Int)) l (by rw [rngQ_len]; omega)
          rw [show (1 + (m : Int) + (i : Int)) = (i : Int) + 1 + (m : Int) by omega, rngQ_snoc, show (i : Int) + 1 + (m : Int) = 1 + (m : Int) + (i : Int) by omega, show m + 1 = k by omega] at CS
          go_wp2_with (first
            | (go_at_call 9; (with_reducible refine CC.mono ?_); rintro e w3 ⟨rfl, ⟨m3, rfl⟩⟩)
            | (go_at_call 10; (with_reducible refine (CF _).mono ?_); rintro e w4 ⟨rfl, l4⟩; have HL4 := hide l4; clear l4)
            | (go_at_call 11; (with_reducible refine (CN2 _ HL4.out).mono ?_); rintro e w5 ⟨rfl, rfl⟩)
            | (go_at_call 12; (with_reducible refine (CR _ HL4.out).mono ?_); rintro e w6 ⟨rfl, l6⟩; have HL6 := hide l6; clear l6)
            | (go_at_call 10; (with_reducible refine (CS _ HL6.out).mono ?_); rintro e w7 ⟨rfl, l7⟩; have HL7 := hide l7; clear l7))
          go_roundw
          case rel =>
            exact ⟨i + 1, by omega, by go_num, HL7.out⟩
          case measure => simp [intOf]; omega
        · obtain rfl : i = n := by omega
          have C1 := law_qlen HI.out
          rw [rngQ_len] at C1
          have C2 := law_qroom HI.out
          have C3 := law_canrec HI.out
          rw [rngQ_len, decide_eq_true (show 0 < k by omega), Bool.or_true] at C3
          go_wp2_with (first
            | (go_at_call 11; (with_reducible refine C1.mono ?_); rintro e w5 ⟨rfl, rfl⟩)
            | (go_at_call 13; (with_reducible refine C2.mono ?_); rintro e w6 ⟨rfl, rfl⟩)
            | (go_at_call 14; (with_reducible refine C3.mono ?_); rintro e w7 ⟨rfl, ⟨m7, rfl⟩⟩))
          go_ret
          exact ⟨rfl, bdN HI.out.bel _⟩
end Go.Proofs.Ytfecalpfjafecaa
