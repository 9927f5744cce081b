/- The statements on what is below, and on what is reset. -/
import Derived.Test.YtkkoemcciemloaaS16O
namespace Go.Proofs.Ytkkoemcciemloaa
open Go.RowKit
open Go.Maps (Keyed)
open Go.MapKept Go.ChangeMaps


set_option maxHeartbeats 4000000 in
theorem law_RingBelow (a b : Int) (w : World) (ha : -2147483648 ≤ a ∧ a ≤ 2147483647) (hb : -2147483648 ≤ b ∧ b ≤ 2147483647) :
    Calls Try.prog 7 #[.int .i32 a, .int .i32 b] w fun e w' => e = .returned (.bool true) ∧ Below w.heap.size w w' := by
  obtain ⟨a1, a2⟩ := ha
  obtain ⟨b1, b2⟩ := hb
  have CL := lives16_any w
  have CN := fun (w1 : World) (hb : Below w.heap.size w w1) => law_new hb 1 1 (by decide) (by decide) (by decide) (by decide)
  rw [show (roomF 1).toNat = 1 by decide, show (widthF 1).toNat = 1 by decide] at CN
  have RL := fun (W : World) (x : Int) => (row_lit .i64 W 2 [x] : RowAt .i64 (W.alloc (.cells #[.int .i64 x] 2)) (some ⟨W.heap.size, 0, none⟩) [x])
  have P1 := fun (w1 : World) (r : Nat) (h : LawR w w1 r 1 1 []) => law_put (cap := 1) (n := 1) (j := a) h (below1 w1 (.cells #[.int .i64 1] 2)) (Nat.le_refl _) (by omega) (by omega) (rfl : ([1] : List Int).length = 1) (by decide) (RL w1 1)
  have e1 : putB 1 1 [] a 1 = true := by simp [putB, hasJ]
  have e2 : putR 1 [] (a, [1]) = [(a, [1])] := rfl
  rw [e1, if_pos rfl, e2] at P1
  have P2 := fun (w1 : World) (r : Nat) (h : LawR w w1 r 1 1 [(a, [1])]) => law_put (cap := 1) (n := 1) (j := b) h (below1 w1 (.cells #[.int .i64 2] 2)) (Nat.le_refl _) (by omega) (by omega) (rfl : ([2] : List Int).length = 1) (by decide) (RL w1 2)
  have e3 : putB 1 1 [(a, [1])] b 1 = decide (a < b) := by
    have h1 : hasJ [(a, [1])] b = decide (a = b) := by simp [hasJ]
    unfold putB
    rw [h1, decide_eq_true rfl, decide_eq_true (show ([(a, [1])] : List (Int × List Int)).length = 1 from rfl)]
    show (true && !decide (a = b) && !(true && decide (b < a))) = decide (a < b)
    rcases Int.lt_trichotomy a b with q | q | q
    · rw [decide_eq_false (show ¬ a = b by omega), decide_eq_false (show ¬ b < a by omega), decide_eq_true q]; rfl
    · rw [decide_eq_true q, decide_eq_false (show ¬ a < b by omega)]; rfl
    · rw [decide_eq_false (show ¬ a = b by omega), decide_eq_true (show b < a from q), decide_eq_false (show ¬ a < b by omega)]; rfl
  have e4 : putR 1 [(a, [1])] (b, [2]) = [(b, [2])] := rfl
  rw [e3, e4] at P2
  have L1 := fun (w1 : World) (r : Nat) (x : Int × List Int) (h : LawR w w1 r 1 1 [x]) => law_len h
  have F1 := fun (w1 : World) (r : Nat) (x : Int × List Int) (h : LawR w w1 r 1 1 [x]) => law_first1 h
  clear e1 e2 e3 e4 RL
  by_cases hlt : a < b
  · have q := decide_eq_true hlt
    rw [q, if_pos rfl] at P2
    go_enter Try.func7, Try.ntmps7
    go_wp2_with (first
      | (go_at_call 8; (with_reducible refine CL.mono ?_); rintro e w1 ⟨rfl, b1⟩; have HB1 := hide b1; clear b1)
      | (go_at_call 9; (with_reducible refine (CN _ HB1.out).mono ?_); rintro e w2 ⟨r, rfl, l2⟩; have HL2 := hide l2; clear l2)
      | (go_at_call 10; (with_reducible refine (P1 _ _ HL2.out).mono ?_); rintro e w3 ⟨rfl, l3⟩; have HL3 := hide l3; clear l3)
      | (go_at_call 10; (with_reducible refine (P2 _ _ HL3.out).mono ?_); rintro e w4 ⟨rfl, l4⟩; have HL4 := hide l4; clear l4)
      | (go_at_call 13; (with_reducible refine (L1 _ _ _ HL4.out).mono ?_); rintro e w5 ⟨rfl, rfl⟩)
      | (go_at_call 12; (with_reducible refine (F1 _ _ _ HL4.out).mono ?_); rintro e w5 ⟨rfl, rfl⟩))
    go_ret
    exact ⟨rfl, HL4.out.bel⟩
  · have q := decide_eq_false hlt
    rw [q, if_neg (by decide)] at P2
    go_enter Try.func7, Try.ntmps7
    go_wp2_with (first
      | (go_at_call 8; (with_reducible refine CL.mono ?_); rintro e w1 ⟨rfl, b1⟩; have HB1 := hide b1; clear b1)
      | (go_at_call 9; (with_reducible refine (CN _ HB1.out).mono ?_); rintro e w2 ⟨r, rfl, l2⟩; have HL2 := hide l2; clear l2)
      | (go_at_call 10; (with_reducible refine (P1 _ _ HL2.out).mono ?_); rintro e w3 ⟨rfl, l3⟩; have HL3 := hide l3; clear l3)
      | (go_at_call 10; (with_reducible refine (P2 _ _ HL3.out).mono ?_); rintro e w4 ⟨rfl, l4⟩; have HL4 := hide l4; clear l4)
      | (go_at_call 13; (with_reducible refine (L1 _ _ _ HL4.out).mono ?_); rintro e w5 ⟨rfl, rfl⟩)
      | (go_at_call 12; (with_reducible refine (F1 _ _ _ HL4.out).mono ?_); rintro e w5 ⟨rfl, rfl⟩))
    go_ret
    exact ⟨rfl, HL4.out.bel⟩
end Go.Proofs.Ytkkoemcciemloaa
