/- The program's heads: a number with what stands ahead of it; a head's sizes. -/
import Derived.Test.YtoppojilndnghaaDoorS10O
import Derived.Test.YtoppojilndnghaaDoorS09C
namespace Go.Proofs.YtoppojilndnghaaDoor
open Go.RowKit


set_option maxHeartbeats 1000000 in
theorem hnext_any (xs : List Int) (n : Nat) (hn : xs.length = n) (h9 : n ≤ 1048576) (hx : ∀ x ∈ xs, 0 ≤ x ∧ x ≤ 255) (ad : Option Addr) (cap : Nat) (w : World) (hr : RowAt .u8 w ad xs) (i : Nat) (hi : i ≤ n) :
    Calls Tryd.prog 43 #[.slice ad n cap, .int .i64 (i : Int)] w fun e w' => ∃ j : Nat, e = .returned (.tuple #[.int .i64 (numF (xs.drop i)).2.1, .int .i64 (j : Int), .int .i64 (numF (xs.drop i)).1]) ∧ ((numF (xs.drop i)).1 = 0 → i ≤ j ∧ j ≤ n ∧ xs.drop j = (numF (xs.drop i)).2.2) ∧ w = w' := by
  have CP := fun w hr => hpast_any xs n hn h9 ad cap w hr i hi
  have CN := fun w hr j hj => hnumber_any xs n hn h9 hx ad cap w hr j hj
  have HN := hide hn
  have HR := hide hr
  obtain ⟨M, hM⟩ : ∃ M, numF (xs.drop i) = M := ⟨_, rfl⟩
  rw [hM]
  have HM := hide hM
  obtain ⟨L, hL⟩ : ∃ L, (overF false false (xs.drop i)).1 = L := ⟨_, rfl⟩
  rw [hL] at CP
  have HL := hide hL
  clear hL hM hn hr hx
  -- behind what stands ahead
  have key : ∀ j : Nat, i ≤ j → j ≤ n → xs.drop j = L → Calls Tryd.prog 55 #[.slice ad n cap, .int .i64 (i : Int)] w (fun e w' => e = .returned (.int .i64 (j : Int)) ∧ w = w') →
      Calls Tryd.prog 43 #[.slice ad n cap, .int .i64 (i : Int)] w fun e w' => ∃ j : Nat, e = .returned (.tuple #[.int .i64 M.2.1, .int .i64 (j : Int), .int .i64 M.1]) ∧ (M.1 = 0 → i ≤ j ∧ j ≤ n ∧ xs.drop j = M.2.2) ∧ w = w' := by
    intro j hij hjn hd C1
    clear CP
    by_cases hj : j < n
    · obtain ⟨b, off, rfl, c⟩ := HR.out.get (j := j) (by rw [HN.out]; exact hj)
      have CD := fun w => hdigit_any (xs.getD j 0) w
      have hne : ((j : Int) == (n : Int)) = false := beq_eq_false_iff_ne.2 (by omega)
      by_cases hij2 : j = i
      · have hM2 := numAt_bad (xs := xs) (k := i) (j := j) (by rw [HN.out]; exact hj) hij (by rw [HL.out, hd]) (.inl hij2)
        rw [HM.out] at hM2
        have H2 := hide hM2
        have hee : ((j : Int) == (i : Int)) = true := beq_iff_eq.2 (by omega)
        clear hM2 hd hij2 CD CN
        go_enter Tryd.func43, Tryd.ntmps43
        go_wp2_with (go_at_call 55; (with_reducible refine C1.mono ?_); rintro e w2 ⟨rfl, rfl⟩)
        exact bodyPost_ret (v := .tuple #[.int .i64 0, .int .i64 0, .int .i64 2]) (by simp [results, Tryd.results43, go_sem]) rfl ⟨0, by rw [H2.out]; rfl, (fun h => by rw [H2.out] at h; cases h), rfl⟩
      · have hee : ((j : Int) == (i : Int)) = false := beq_eq_false_iff_ne.2 (by omega)
        cases hq : digitF (xs.getD j 0) with
        | false =>
          rw [hq] at CD
          have hM2 := numAt_bad (xs := xs) (k := i) (j := j) (by rw [HN.out]; exact hj) hij (by rw [HL.out, hd]) (.inr hq)
          rw [HM.out] at hM2
          have H2 := hide hM2
          clear hM2 hd hij2 hq CN
          generalize xs.getD j 0 = x at *
          go_enter Tryd.func43, Tryd.ntmps43
          go_wp2_with (first
            | (go_at_call 55; (with_reducible refine C1.mono ?_); rintro e w2 ⟨rfl, rfl⟩)
            | (go_at_call 56; (with_reducible refine (CD _).mono ?_); rintro e w2 ⟨rfl, rfl⟩))
          exact bodyPost_ret (v := .tuple #[.int .i64 0, .int .i64 0, .int .i64 2]) (by simp [results, Tryd.results43, go_sem]) rfl ⟨0, by rw [H2.out]; rfl, (fun h => by rw [H2.out] at h; cases h), rfl⟩
        | true =>
          rw [hq] at CD
          have hM2 := numAt_ok (xs := xs) (k := i) (j := j) (by rw [HN.out]; exact hj) (by omega) (by rw [HL.out, hd]) hq
          rw [HM.out] at hM2
          obtain ⟨D, hD⟩ : ∃ D, digitsF 0 (xs.drop j) = D := ⟨_, rfl⟩
          have CN2 := CN w HR.out j hjn
          rw [hD] at hM2 CN2
          have H2 := hide hM2
          have HD := hide hd
          clear hM2 hd hij2 hq CN hD
          generalize xs.getD j 0 = x at *
          go_enter Tryd.func43, Tryd.ntmps43
          go_wp2_with (first
            | (go_at_call 55; (with_reducible refine C1.mono ?_); rintro e w2 ⟨rfl, rfl⟩)
            | (go_at_call 56; (with_reducible refine (CD _).mono ?_); rintro e w2 ⟨rfl, rfl⟩)
            | (go_at_call 57; (with_reducible refine CN2.mono ?_); rintro e w2 ⟨q, rfl, hjq, hqn, hdq, rfl⟩; have HDQ := hide hdq; clear hdq))
          exact bodyPost_ret (v := .tuple #[.int .i64 D.1, .int .i64 (q : Int), .int .i64 0]) (by simp [results, Tryd.results43, go_sem]) rfl ⟨q, by rw [H2.out], (fun _ => ⟨by omega, hqn, by rw [H2.out]; exact HDQ.out⟩), rfl⟩
    · obtain rfl : j = n := by omega
      have hM2 := numAt_end (xs := xs) (k := i) (by rw [HL.out, ← hd]; exact List.drop_eq_nil_of_le (by rw [HN.out]; exact Nat.le_refl _))
      rw [HM.out] at hM2
      have H2 := hide hM2
      clear hM2 hd hj CN
      have hee : ((j : Int) == (j : Int)) = true := beq_self_eq_true _
      go_enter Tryd.func43, Tryd.ntmps43
      go_wp2_with (go_at_call 55; (with_reducible refine C1.mono ?_); rintro e w2 ⟨rfl, rfl⟩)
      exact bodyPost_ret (v := .tuple #[.int .i64 0, .int .i64 0, .int .i64 3]) (by simp [results, Tryd.results43, go_sem]) rfl ⟨0, by rw [H2.out]; rfl, (fun h => by rw [H2.out] at h; cases h), rfl⟩
  have CP0 := CP w HR.out
  obtain ⟨_, _, _, ⟨j, _, hij, hjn, hd, _⟩, _⟩ := CP0 []
  refine key j hij hjn hd (CP0.mono ?_)
  rintro e w' ⟨j', rfl, h1, h2, h3, hw⟩
  obtain rfl : j' = j := by
    have a := congrArg List.length (h3.trans hd.symm)
    rw [List.length_drop, List.length_drop, HN.out] at a
    omega
  exact ⟨rfl, hw⟩
/-- What is wrong with a head's sizes. -/
def checkF (a b c t : Int) : Int := if a = 0 ∨ b = 0 ∨ t = 0 ∨ 65535 < t then 2 else if fitsF a b c = false then 5 else 0
set_option maxHeartbeats 1000000 in
theorem hcheck_any (c a b t z : Int) (a0 : 0 ≤ a) (b0 : 0 ≤ b) (t0 : 0 ≤ t) (w : World) :
    Calls Tryd.prog 45 #[.agg #[.int .i64 c, .int .i64 a, .int .i64 b, .int .i64 t, .int .i64 z]] w fun e w' => e = .returned (.int .i64 (checkF a b c t)) ∧ Below w.heap.size w w' := by
  have HB := hide (below1 w (.cells #[.int .i64 c, .int .i64 a, .int .i64 b, .int .i64 t, .int .i64 z] 47))
  have CF := fun w => rfits_any a b c w
  by_cases hz : a = 0 ∨ b = 0 ∨ t = 0 ∨ 65535 < t
  · rw [show checkF a b c t = 2 by unfold checkF; rw [if_pos hz]]
    have hz2 : a = 0 ∨ (1 ≤ a ∧ b = 0) ∨ (1 ≤ a ∧ 1 ≤ b ∧ t = 0) ∨ (1 ≤ a ∧ 1 ≤ b ∧ 65535 < t) := by omega
    clear hz CF
    rcases hz2 with rfl | ⟨y0, rfl⟩ | ⟨y0, y1, rfl⟩ | ⟨y0, y1, y2⟩
    · go_enter Tryd.func45, Tryd.ntmps45
      go_wp2
      go_ret
      exact ⟨rfl, HB.out⟩
    · have n0 : (a == 0) = false := beq_eq_false_iff_ne.2 (by omega)
      go_enter Tryd.func45, Tryd.ntmps45
      go_wp2
      go_ret
      exact ⟨rfl, HB.out⟩
    · have n0 : (a == 0) = false := beq_eq_false_iff_ne.2 (by omega)
      have n1 : (b == 0) = false := beq_eq_false_iff_ne.2 (by omega)
      go_enter Tryd.func45, Tryd.ntmps45
      go_wp2
      go_ret
      exact ⟨rfl, HB.out⟩
    · have n0 : (a == 0) = false := beq_eq_false_iff_ne.2 (by omega)
      have n1 : (b == 0) = false := beq_eq_false_iff_ne.2 (by omega)
      have n2 : (t == 0) = false := beq_eq_false_iff_ne.2 (by omega)
      go_enter Tryd.func45, Tryd.ntmps45
      go_wp2
      go_ret
      exact ⟨rfl, HB.out⟩
  · have y0 : 1 ≤ a := by omega
    have y1 : 1 ≤ b := by omega
    have y2 : 1 ≤ t := by omega
    have y3 : t ≤ 65535 := by omega
    have n0 : (a == 0) = false := beq_eq_false_iff_ne.2 (by omega)
    have n1 : (b == 0) = false := beq_eq_false_iff_ne.2 (by omega)
    have n2 : (t == 0) = false := beq_eq_false_iff_ne.2 (by omega)
    cases hf : fitsF a b c with
    | false =>
      rw [show checkF a b c t = 5 by unfold checkF; rw [if_neg hz, if_pos hf]]
      rw [hf] at CF
      clear hz hf
      go_enter Tryd.func45, Tryd.ntmps45
      go_wp2_with (go_at_call 37; (with_reducible refine (CF _).mono ?_); rintro e w3 ⟨rfl, rfl⟩)
      go_ret
      exact ⟨rfl, HB.out⟩
    | true =>
      rw [show checkF a b c t = 0 by unfold checkF; rw [if_neg hz, if_neg (by rw [hf]; decide)]]
      rw [hf] at CF
      clear hz hf
      go_enter Tryd.func45, Tryd.ntmps45
      go_wp2_with (go_at_call 37; (with_reducible refine (CF _).mono ?_); rintro e w3 ⟨rfl, rfl⟩)
      go_ret
      exact ⟨rfl, HB.out⟩
end Go.Proofs.YtoppojilndnghaaDoor
