/- A queue within a statement; the chapter's example; two slices of the same numbers. -/
import Derived.Test.YtfecalpfjafecaaS18B
namespace Go.Proofs.Ytfecalpfjafecaa
open Go.RowKit


/-- A queue that the statement made, behind whatever it did. -/
def LawQ (w0 w : World) (q room : Nat) (L : List Int) (cl : Bool) : Prop := ∃ base S, w0.heap.size ≤ base ∧ QueueAt w base q S room L cl ∧ Below w0.heap.size w0 w
theorem LawQ.bel {w0 w : World} {q room : Nat} {L : List Int} {cl : Bool} (h : LawQ w0 w q room L cl) : Below w0.heap.size w0 w := by
  obtain ⟨_, _, _, _, h⟩ := h
  exact h
theorem LawQ.below {w0 w w' : World} {q room : Nat} {L : List Int} {cl : Bool} (h : LawQ w0 w q room L cl) (hb : Below w.heap.size w w') : LawQ w0 w' q room L cl := by
  obtain ⟨base, S, h1, h2, h3⟩ := h
  exact ⟨base, S, h1, h2.below hb, bt h3 hb⟩
theorem LawQ.drewN {w0 w : World} {q room : Nat} {L : List Int} {cl : Bool} (h : LawQ w0 w q room L cl) (n : Nat) : LawQ w0 (w.drewN n) q room L cl := h.below (bdN (Below.refl _ _) n)
theorem LawQ.len {w0 w : World} {q room : Nat} {L : List Int} {cl : Bool} (h : LawQ w0 w q room L cl) : L.length ≤ room ∧ 1 ≤ room ∧ room ≤ 4096 := by
  obtain ⟨_, _, _, R, _⟩ := h
  exact ⟨R.len, R.r1, R.r2⟩
theorem law_qnew {w0 w : World} (hb : Below w0.heap.size w0 w) (a : Int) (a1 : -9223372036854775808 ≤ a) (a2 : a ≤ 9223372036854775807) :
    Calls Try.prog 8 #[.int .i64 a] w fun e w' => ∃ q, e = .returned (.pointer (some ⟨q, 0, none⟩)) ∧ LawQ w0 w' q (roomQ a).toNat [] false := by
  refine (qnew_any a a1 a2 w).mono ?_
  rintro e w' ⟨q, S, rfl, h1, h2⟩
  exact ⟨q, rfl, w.heap.size, S, hb.size, h1, bt hb h2⟩
theorem LawQ.step {w0 w w' : World} {base q room : Nat} {S S' : Nat → Prop} {L : List Int} {cl : Bool} (h1 : w0.heap.size ≤ base) (h3 : Below w0.heap.size w0 w) (hlo : ∀ k, S k → base ≤ k) (R : QueueAt w' base q S' room L cl) (O : Off S w w') : LawQ w0 w' q room L cl :=
  ⟨base, S', h1, R, Off.after h3 O h3.size (fun k hk => Nat.le_trans h1 (hlo k hk))⟩
theorem law_qsend {w0 w : World} {q room : Nat} {L : List Int} {cl : Bool} {x : Int} (h : LawQ w0 w q room L cl) :
    Calls Try.prog 10 #[.pointer (some ⟨q, 0, none⟩), .int .i64 x] w fun e w' => e = .returned (.int .i64 (sendC room L cl)) ∧ LawQ w0 w' q room (sendL room L cl x) cl := by
  obtain ⟨base, S, h1, h2, h3⟩ := h
  refine (qsend_any h2).mono ?_
  rintro e w' ⟨rfl, S', R, O, _⟩
  exact ⟨rfl, LawQ.step h1 h3 h2.lo R O⟩
theorem law_send_ok {w0 w : World} {q room : Nat} {L : List Int} {x : Int} (h : LawQ w0 w q room L false) (hl : L.length < room) :
    Calls Try.prog 10 #[.pointer (some ⟨q, 0, none⟩), .int .i64 x] w fun e w' => e = .returned (.int .i64 0) ∧ LawQ w0 w' q room (L ++ [x]) false := by
  have := law_qsend (x := x) h
  simpa [sendC, sendL, hl] using this
theorem law_send_full {w0 w : World} {q room : Nat} {L : List Int} {x : Int} (h : LawQ w0 w q room L false) (hl : ¬ L.length < room) :
    Calls Try.prog 10 #[.pointer (some ⟨q, 0, none⟩), .int .i64 x] w fun e w' => e = .returned (.int .i64 1) ∧ LawQ w0 w' q room L false := by
  have := law_qsend (x := x) h
  simpa [sendC, sendL, hl] using this
theorem law_send_closed {w0 w : World} {q room : Nat} {L : List Int} {x : Int} (h : LawQ w0 w q room L true) :
    Calls Try.prog 10 #[.pointer (some ⟨q, 0, none⟩), .int .i64 x] w fun e w' => e = .returned (.int .i64 2) ∧ LawQ w0 w' q room L true := by
  have := law_qsend (x := x) h
  simpa [sendC, sendL] using this
theorem law_qrec {w0 w : World} {q room : Nat} {L : List Int} {cl : Bool} (h : LawQ w0 w q room L cl) :
    Calls Try.prog 12 #[.pointer (some ⟨q, 0, none⟩)] w fun e w' => e = .returned (.tuple #[.int .i64 (L.headD 0), .int .i64 (recC L cl)]) ∧ LawQ w0 w' q room L.tail cl := by
  obtain ⟨base, S, h1, h2, h3⟩ := h
  refine (qrec_any h2).mono ?_
  rintro e w' ⟨rfl, R, O⟩
  exact ⟨rfl, LawQ.step h1 h3 h2.lo R O⟩
theorem law_rec_some {w0 w : World} {q room : Nat} {L : List Int} {cl : Bool} {x : Int} (h : LawQ w0 w q room (x :: L) cl) :
    Calls Try.prog 12 #[.pointer (some ⟨q, 0, none⟩)] w fun e w' => e = .returned (.tuple #[.int .i64 x, .int .i64 0]) ∧ LawQ w0 w' q room L cl := law_qrec h
theorem law_rec_ended {w0 w : World} {q room : Nat} (h : LawQ w0 w q room [] true) :
    Calls Try.prog 12 #[.pointer (some ⟨q, 0, none⟩)] w fun e w' => e = .returned (.tuple #[.int .i64 0, .int .i64 2]) ∧ LawQ w0 w' q room [] true := law_qrec h
theorem law_rec_blocked {w0 w : World} {q room : Nat} (h : LawQ w0 w q room [] false) :
    Calls Try.prog 12 #[.pointer (some ⟨q, 0, none⟩)] w fun e w' => e = .returned (.tuple #[.int .i64 0, .int .i64 1]) ∧ LawQ w0 w' q room [] false := law_qrec h
theorem law_qclose {w0 w : World} {q room : Nat} {L : List Int} {cl : Bool} (h : LawQ w0 w q room L cl) :
    Calls Try.prog 17 #[.pointer (some ⟨q, 0, none⟩)] w fun e w' => e = .returned (.bool (!cl)) ∧ LawQ w0 w' q room L true := by
  obtain ⟨base, S, h1, h2, h3⟩ := h
  refine (qclose_any h2).mono ?_
  rintro e w' ⟨rfl, R, O⟩
  exact ⟨rfl, LawQ.step h1 h3 h2.lo R O⟩
theorem law_qlen {w0 w : World} {q room : Nat} {L : List Int} {cl : Bool} (h : LawQ w0 w q room L cl) :
    Calls Try.prog 11 #[.pointer (some ⟨q, 0, none⟩)] w fun e w' => e = .returned (.int .i64 (L.length : Int)) ∧ w = w' := by
  obtain ⟨_, _, _, R, _⟩ := h
  exact qlen_any R
theorem law_qroom {w0 w : World} {q room : Nat} {L : List Int} {cl : Bool} (h : LawQ w0 w q room L cl) :
    Calls Try.prog 13 #[.pointer (some ⟨q, 0, none⟩)] w fun e w' => e = .returned (.int .i64 (room : Int)) ∧ w = w' := by
  obtain ⟨_, _, _, R, _⟩ := h
  exact qroom_any R
theorem law_qclosed {w0 w : World} {q room : Nat} {L : List Int} {cl : Bool} (h : LawQ w0 w q room L cl) :
    Calls Try.prog 19 #[.pointer (some ⟨q, 0, none⟩)] w fun e w' => e = .returned (.bool cl) ∧ w = w' := by
  obtain ⟨_, _, _, R, _⟩ := h
  exact qclosed_any R
theorem law_cansend {w0 w : World} {q room : Nat} {L : List Int} {cl : Bool} (h : LawQ w0 w q room L cl) :
    Calls Try.prog 9 #[.pointer (some ⟨q, 0, none⟩)] w fun e w' => e = .returned (.bool (cl || decide (L.length < room))) ∧ Drew w w' := by
  obtain ⟨_, _, _, R, _⟩ := h
  exact qcansend_any R
theorem law_canrec {w0 w : World} {q room : Nat} {L : List Int} {cl : Bool} (h : LawQ w0 w q room L cl) :
    Calls Try.prog 14 #[.pointer (some ⟨q, 0, none⟩)] w fun e w' => e = .returned (.bool (cl || decide (0 < L.length))) ∧ Drew w w' := by
  obtain ⟨_, _, _, R, _⟩ := h
  exact qcanrec_any R
theorem law_qlist {w0 w : World} {q room : Nat} {L : List Int} {cl : Bool} (h : LawQ w0 w q room L cl) :
    Calls Try.prog 21 #[.pointer (some ⟨q, 0, none⟩)] w fun e w' => ∃ v, e = .returned v ∧ OwnI .i64 3 w' w.heap.size v L ∧ Below w.heap.size w w' := by
  obtain ⟨_, _, _, R, _⟩ := h
  exact qlist_any R
set_option maxHeartbeats 4000000 in
theorem lives18_any (w : World) : Calls Try.prog 7 #[] w fun e w' => e = .returned (.bool true) ∧ Below w.heap.size w w' := by
  have CN := law_qnew (Below.refl w.heap.size w) 1 (by decide) (by decide)
  rw [show (roomQ 1).toNat = 1 by decide] at CN
  have S1 := fun (w1 : World) (q : Nat) (h : LawQ w w1 q 1 [] false) => law_send_ok (x := 5) h (by decide)
  have S2 := fun (w1 : World) (q : Nat) (h : LawQ w w1 q 1 [5] false) => law_send_full (x := 6) h (by decide)
  have S3 := fun (w1 : World) (q : Nat) (h : LawQ w w1 q 1 [5] false) => law_qclose h
  have S4 := fun (w1 : World) (q : Nat) (h : LawQ w w1 q 1 [5] true) => law_rec_some h
  have S5 := fun (w1 : World) (q : Nat) (h : LawQ w w1 q 1 [] true) => law_rec_ended h
  rw [List.nil_append] at S1
  go_enter Try.func7, Try.ntmps7
  go_wp2_with (first
    | (go_at_call 8; (with_reducible refine CN.mono ?_); rintro e w1 ⟨q, rfl, l1⟩; have HL1 := hide l1; clear l1)
    | (go_at_call 10; (with_reducible refine (S1 _ _ HL1.out).mono ?_); rintro e w2 ⟨rfl, l2⟩; have HL2 := hide l2; clear l2)
    | (go_at_call 10; (with_reducible refine (S2 _ _ HL2.out).mono ?_); rintro e w3 ⟨rfl, l3⟩; have HL3 := hide l3; clear l3)
    | (go_at_call 17; (with_reducible refine (S3 _ _ HL3.out).mono ?_); rintro e w4 ⟨rfl, l4⟩; have HL4 := hide l4; clear l4)
    | (go_at_call 12; (with_reducible refine (S4 _ _ HL4.out).mono ?_); rintro e w5 ⟨rfl, l5⟩; have HL5 := hide l5; clear l5)
    | (go_at_call 12; (with_reducible refine (S5 _ _ HL5.out).mono ?_); rintro e w6 ⟨rfl, l6⟩; have HL6 := hide l6; clear l6))
  go_ret
  exact ⟨rfl, HL6.out.bel⟩
/-- The same numbers. -/
theorem same18_n (n : Nat) (xs : List Int) (hn : xs.length = n) (ad bd : Option Addr) (cap cap' : Nat) (w : World) (hr : RowAt .i64 w ad xs) (hq : RowAt .i64 w bd xs) (hl : n ≤ 9223372036854775807) :
    Calls Try.prog 20 #[.slice ad n cap, .slice bd n cap'] w fun e w' => e = .returned (.bool true) ∧ Below w.heap.size w w' := by
  have HR := hide hr
  have HQ := hide hq
  have HN := hide hn
  clear hr hq hn
  go_enter Try.func20, Try.ntmps20
  go_wp2
  go_loopw [13] (fun i wr => ∃ k : Nat, k ≤ n ∧ i = .int .i64 (k : Int) ∧ Below w.heap.size w wr) (fun i _ => n - (intOf i).toNat)
  case atStart => exact ⟨0, by omega, rfl, Below.refl _ _⟩
  case round =>
    obtain ⟨k, hk, rfl, hb⟩ := hrel
    have HB := hide hb
    clear hb
    by_cases hlt : k < n
    · obtain ⟨b, off, rfl, hc⟩ := (HR.out.below HB.out).get (show k < xs.length by rw [HN.out]; exact hlt)
      obtain ⟨b', off', rfl, hc'⟩ := (HQ.out.below HB.out).get (show k < xs.length by rw [HN.out]; exact hlt)
      generalize xs.getD k 0 = x at *
      go_wp2_with fail
      go_quiet (fail)
      go_wp2
      go_roundw
      case rel => exact ⟨k + 1, by omega, by go_num, bdN HB.out _⟩
      case measure => simp [intOf]; omega
    · obtain rfl : k = n := by omega
      go_wp2
      go_ret
      exact ⟨rfl, HB.out⟩
end Go.Proofs.Ytfecalpfjafecaa
