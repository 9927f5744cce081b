/- Parts, joined. -/
import Derived.Test.YtaafhjngnjjcmaaGreatDoorJ03
import Derived.Test.YtaafhjngnjjcmaaGreatDoorJ04
import Derived.Test.YtaafhjngnjjcmaaGreatDoorJ05
import Derived.Test.YtaafhjngnjjcmaaGreatDoorJ08
import Derived.Test.YtaafhjngnjjcmaaGreatDoorJ09
import Derived.Test.YtaafhjngnjjcmaaGreatDoorJ01
/- The program's and the document's exponential function: what each call answers. -/
namespace Go.Proofs.YtaafhjngnjjcmaaGreatDoor
open Go.RowKit


theorem refmuldiv_to (a b d v : Int) (hv : divF (a * b) d = v) (h0 : -9223372036854775808 ≤ a) (h1 : a ≤ 9223372036854775807) (k0 : -9223372036854775808 ≤ b) (k1 : b ≤ 9223372036854775807) (d0 : -9223372036854775808 ≤ d) (d1 : d ≤ 9223372036854775807) (w : World) :
    Calls Tryz.prog 127 #[.int .i64 a, .int .i64 b, .int .i64 d] w fun e w' => e = .returned (.int .i64 v) ∧ Below w.heap.size w w' := by
  subst hv
  exact refmuldiv_any a b d h0 h1 k0 k1 d0 d1 w
theorem refshift_to (x n v : Int) (hv : shiftF x n = v) (h0 : -9223372036854775808 ≤ x) (h1 : x ≤ 9223372036854775807) (w : World) :
    Calls Tryz.prog 61 #[.int .i64 x, .int .i64 n] w fun e w' => e = .returned (.int .i64 v) ∧ Below w.heap.size w w' := by
  subst hv
  exact refshift_any x n h0 h1 w
set_option maxHeartbeats 1000000 in
theorem series_any (r : Int) (h0 : 0 ≤ r) (h1 : r ≤ 1099511627776) (w : World) :
    Calls Tryz.prog 185 #[.int .i64 r] w fun e w' => e = .returned (.int .i64 (sumE r 16)) ∧ Below w.heap.size w w' := by
  go_enter Tryz.func185, Tryz.ntmps185
  go_wp2
  go_loopw [3, 4, 5] (fun s t i wr => ∃ k : Nat, k ≤ 16 ∧ s = .int .i64 (sumE r k) ∧ t = .int .i64 (termE r k) ∧ i = .int .i64 ((k : Int) + 1) ∧ Below w.heap.size w wr) (fun _ _ i _ => 17 - (intOf i).toNat)
  case atStart => exact ⟨0, by omega, rfl, rfl, rfl, Below.refl _ _⟩
  case round =>
    obtain ⟨k, hk, rfl, rfl, rfl, hb⟩ := hrel
    have HB := hide hb
    clear hb
    have t := termE_in h0 h1 k
    have s := sumE_in h0 h1 k
    obtain ⟨t0, t1⟩ := t
    obtain ⟨s0, s1⟩ := s
    by_cases hlt : k < 16
    · have u := termE_in h0 h1 (k + 1)
      obtain ⟨u0, u1⟩ := u
      have CM := muldiv_to (termE r k) r (((k : Int) + 1) * 1099511627776) (termE r (k + 1)) rfl (by omega) (by omega) (by omega) (by omega) (by omega) (by omega)
      have hs : sumE r (k + 1) = if k % 2 = 0 then sumE r k - termE r (k + 1) else sumE r k + termE r (k + 1) := rfl
      have HS := hide hs
      clear hs
      by_cases hp : k % 2 = 0
      · have tst : (((k : Int) + 1) % 2 == 1) = true := beq_iff_eq.2 (by omega)
        have HP := hide hp
        clear hp
        go_wp2_with (go_at_call 139; (with_reducible refine (CM _).mono ?_); rintro e w1 ⟨rfl, b1⟩)
        go_roundw
        case rel => exact ⟨k + 1, by omega, by rw [HS.out, if_pos HP.out], rfl, by go_num, bt HB.out b1⟩
        case measure => simp [intOf]; omega
      · have tst : (((k : Int) + 1) % 2 == 1) = false := beq_eq_false_iff_ne.2 (by omega)
        have HP := hide hp
        clear hp
        go_wp2_with (go_at_call 139; (with_reducible refine (CM _).mono ?_); rintro e w1 ⟨rfl, b1⟩)
        go_roundw
        case rel => exact ⟨k + 1, by omega, by rw [HS.out, if_neg HP.out], rfl, by go_num, bt HB.out b1⟩
        case measure => simp [intOf]; omega
    · obtain rfl : k = 16 := by omega
      go_wp2
      go_ret
      exact ⟨rfl, HB.out⟩
set_option maxHeartbeats 1000000 in
theorem exp_any (t : Int) (_h0 : -9223372036854775808 ≤ t) (h1 : t ≤ 9223372036854775807) (w : World) :
    Calls Tryz.prog 163 #[.int .i64 t] w fun e w' => e = .returned (.int .i64 (expoF t)) ∧ Below w.heap.size w w' := by
  have p := exp_parts (posI0 t) (posI1 h1)
  obtain ⟨p0, p1, p2, p3⟩ := p
  have s := sum16_in p0 p1
  obtain ⟨s0, s1⟩ := s
  have CS := series_any (posI t % 762123384786) p0 (by omega)
  have CH := fixshift_any (sumE (posI t % 762123384786) 16) (posI t / 762123384786) (by omega) (by omega) (by omega) (by omega)
  unfold expoF
  generalize hS : sumE (posI t % 762123384786) 16 = S at *
  clear hS
  have x0 : 0 ≤ max t 0 := posI0 t
  have x1 : max t 0 ≤ 9223372036854775807 := posI1 h1
  unfold posI at *
  go_enter Tryz.func163, Tryz.ntmps163
  go_wp2_with (first
    | (go_at_call 185; (with_reducible refine (CS _).mono ?_); rintro e w1 ⟨rfl, b1⟩)
    | (go_at_call 60; (with_reducible refine (CH _).mono ?_); rintro e w2 ⟨rfl, b2⟩))
  go_ret
  exact ⟨rfl, bt b1 b2⟩
set_option maxHeartbeats 1000000 in
theorem refexp_neg (t : Int) (hn : t < 0) (_h0 : -9223372036854775808 ≤ t) (w : World) :
    Calls Tryz.prog 147 #[.int .i64 t] w fun e w' => e = .returned (.int .i64 (shiftF (sumE 0 16) 0)) ∧ Below w.heap.size w w' := by
  have CF := reffloor_any 0 762123384786 (by omega) (by omega) (by omega) (by omega)
  rw [show floorF 0 762123384786 = 0 from rfl] at CF
  have p0 : (0 : Int) ≤ 0 := by omega
  have r1 : (0 : Int) ≤ 1099511627776 := by omega
  go_enter Tryz.func147, Tryz.ntmps147
  go_wp2_with (go_at_call 146; (with_reducible refine (CF _).mono ?_); rintro e w1 ⟨rfl, b1⟩)
  go_loopw [5, 6, 7, 8] (fun a m t i wr => ∃ (k : Nat) (A M : Int), k ≤ 16 ∧ A - M = sumE 0 k ∧ 0 ≤ A ∧ 0 ≤ M ∧ A ≤ ((k : Int) + 1) * 1099511627776 ∧ M ≤ ((k : Int) + 1) * 1099511627776 ∧ a = .int .i64 A ∧ m = .int .i64 M ∧ t = .int .i64 (termE 0 k) ∧ i = .int .i64 ((k : Int) + 1) ∧ Below w.heap.size w wr) (fun _ _ _ i _ => 17 - (intOf i).toNat)
  case atStart => exact ⟨0, _, _, by omega, rfl, by omega, by omega, by omega, by omega, rfl, rfl, rfl, rfl, b1⟩
  case round =>
    obtain ⟨k, A, M, hk, hs0, A0, M0, A1, M1, rfl, rfl, rfl, rfl, hb⟩ := hrel
    have HB := hide hb
    clear hb
    obtain ⟨t0, t1⟩ := termE_in p0 r1 k
    have HS0 := hide hs0
    clear hs0
    by_cases hlt : k < 16
    · obtain ⟨u0, u1⟩ := termE_in p0 r1 (k + 1)
      have CM := refmuldiv_to (termE 0 k) 0 (((k : Int) + 1) * 1099511627776) (termE 0 (k + 1)) rfl (by omega) (by omega) (by omega) (by omega) (by omega) (by omega)
      have hs : sumE 0 (k + 1) = if k % 2 = 0 then sumE 0 k - termE 0 (k + 1) else sumE 0 k + termE 0 (k + 1) := rfl
      have HS := hide hs
      clear hs
      by_cases hp : k % 2 = 0
      · have tst : (((k : Int) + 1) % 2 == 1) = true := beq_iff_eq.2 (by omega)
        have HP := hide hp
        clear hp
        go_wp2_with (go_at_call 127; (with_reducible refine (CM _).mono ?_); rintro e w2 ⟨rfl, b2⟩)
        go_roundw
        case rel => exact ⟨k + 1, A, M + termE 0 (k + 1), by omega, by rw [HS.out, if_pos HP.out, ← HS0.out]; omega, by omega, by omega, by omega, by omega, rfl, rfl, rfl, by go_num, bt HB.out b2⟩
        case measure => simp [intOf]; omega
      · have tst : (((k : Int) + 1) % 2 == 1) = false := beq_eq_false_iff_ne.2 (by omega)
        have HP := hide hp
        clear hp
        go_wp2_with (go_at_call 127; (with_reducible refine (CM _).mono ?_); rintro e w2 ⟨rfl, b2⟩)
        go_roundw
        case rel => exact ⟨k + 1, A + termE 0 (k + 1), M, by omega, by rw [HS.out, if_neg HP.out, ← HS0.out]; omega, by omega, by omega, by omega, by omega, rfl, rfl, rfl, by go_num, bt HB.out b2⟩
        case measure => simp [intOf]; omega
    · obtain rfl : k = 16 := by omega
      have CH := refshift_to (A - M) 0 (shiftF (sumE 0 16) 0) (by rw [HS0.out]) (by omega) (by omega)
      go_wp2_with (go_at_call 61; (with_reducible refine (CH _).mono ?_); rintro e w2 ⟨rfl, b2⟩)
      go_ret
      exact ⟨rfl, bt HB.out b2⟩
set_option maxHeartbeats 1000000 in
theorem refexp_pos (t q r : Int) (hn : 0 ≤ t) (h1 : t ≤ 9223372036854775807) (hq : t / 762123384786 = q) (hr : t % 762123384786 = r) (w : World) :
    Calls Tryz.prog 147 #[.int .i64 t] w fun e w' => e = .returned (.int .i64 (shiftF (sumE r 16) q)) ∧ Below w.heap.size w w' := by
  have CF := reffloor_any t 762123384786 (by omega) (by omega) (by omega) (by omega)
  rw [floorF_of (by omega), show floorQ t 762123384786 = t / 762123384786 from if_neg (by omega), holdI_in (by omega) (by omega), hq] at CF
  have p0 : 0 ≤ r := by omega
  have r1 : r ≤ 1099511627776 := by omega
  have q0 : 0 ≤ q := by omega
  have q1 : q ≤ 12102203 := by omega
  have er : t - q * 762123384786 = r := by omega
  have e0 : 0 ≤ q * 762123384786 := by omega
  have e1 : q * 762123384786 ≤ t := by omega
  clear hq hr
  go_enter Tryz.func147, Tryz.ntmps147
  go_wp2_with (go_at_call 146; (with_reducible refine (CF _).mono ?_); rintro e w1 ⟨rfl, b1⟩)
  go_loopw [5, 6, 7, 8] (fun a m t i wr => ∃ (k : Nat) (A M : Int), k ≤ 16 ∧ A - M = sumE r k ∧ 0 ≤ A ∧ 0 ≤ M ∧ A ≤ ((k : Int) + 1) * 1099511627776 ∧ M ≤ ((k : Int) + 1) * 1099511627776 ∧ a = .int .i64 A ∧ m = .int .i64 M ∧ t = .int .i64 (termE r k) ∧ i = .int .i64 ((k : Int) + 1) ∧ Below w.heap.size w wr) (fun _ _ _ i _ => 17 - (intOf i).toNat)
  case atStart => exact ⟨0, _, _, by omega, rfl, by omega, by omega, by omega, by omega, rfl, rfl, rfl, rfl, b1⟩
  case round =>
    obtain ⟨k, A, M, hk, hs0, A0, M0, A1, M1, rfl, rfl, rfl, rfl, hb⟩ := hrel
    have HB := hide hb
    clear hb
    obtain ⟨t0, t1⟩ := termE_in p0 r1 k
    have HS0 := hide hs0
    clear hs0
    by_cases hlt : k < 16
    · obtain ⟨u0, u1⟩ := termE_in p0 r1 (k + 1)
      have CM := refmuldiv_to (termE r k) r (((k : Int) + 1) * 1099511627776) (termE r (k + 1)) rfl (by omega) (by omega) (by omega) (by omega) (by omega) (by omega)
      have hs : sumE r (k + 1) = if k % 2 = 0 then sumE r k - termE r (k + 1) else sumE r k + termE r (k + 1) := rfl
      have HS := hide hs
      clear hs
      by_cases hp : k % 2 = 0
      · have tst : (((k : Int) + 1) % 2 == 1) = true := beq_iff_eq.2 (by omega)
        have HP := hide hp
        clear hp
        go_wp2_with (go_at_call 127; (with_reducible refine (CM _).mono ?_); rintro e w2 ⟨rfl, b2⟩)
        go_roundw
        case rel => exact ⟨k + 1, A, M + termE r (k + 1), by omega, by rw [HS.out, if_pos HP.out, ← HS0.out]; omega, by omega, by omega, by omega, by omega, rfl, rfl, rfl, by go_num, bt HB.out b2⟩
        case measure => simp [intOf]; omega
      · have tst : (((k : Int) + 1) % 2 == 1) = false := beq_eq_false_iff_ne.2 (by omega)
        have HP := hide hp
        clear hp
        go_wp2_with (go_at_call 127; (with_reducible refine (CM _).mono ?_); rintro e w2 ⟨rfl, b2⟩)
        go_roundw
        case rel => exact ⟨k + 1, A + termE r (k + 1), M, by omega, by rw [HS.out, if_neg HP.out, ← HS0.out]; omega, by omega, by omega, by omega, by omega, rfl, rfl, rfl, by go_num, bt HB.out b2⟩
        case measure => simp [intOf]; omega
    · obtain rfl : k = 16 := by omega
      have CH := refshift_to (A - M) q (shiftF (sumE r 16) q) (by rw [HS0.out]) (by omega) (by omega)
      go_wp2_with (go_at_call 61; (with_reducible refine (CH _).mono ?_); rintro e w2 ⟨rfl, b2⟩)
      go_ret
      exact ⟨rfl, bt HB.out b2⟩
theorem refexp_any (t : Int) (h0 : -9223372036854775808 ≤ t) (h1 : t ≤ 9223372036854775807) (w : World) :
    Calls Tryz.prog 147 #[.int .i64 t] w fun e w' => e = .returned (.int .i64 (expoF t)) ∧ Below w.heap.size w w' := by
  by_cases hn : t < 0
  · have e : posI t = 0 := by unfold posI; omega
    unfold expoF
    rw [e]
    exact refexp_neg t hn h0 w
  · have e : posI t = t := by unfold posI; omega
    unfold expoF
    rw [e]
    exact refexp_pos t _ _ (by omega) h1 rfl rfl w
set_option maxHeartbeats 1000000 in
theorem ratio_any (d s : Int) (h0 : -9223372036854775808 ≤ d) (h1 : d ≤ 9223372036854775807) (k0 : -9223372036854775808 ≤ s) (k1 : s ≤ 9223372036854775807) (w : World) :
    Calls Tryz.prog 164 #[.int .i64 d, .int .i64 s] w fun e w' => e = .returned (.int .i64 (ratioF d s)) ∧ Below w.heap.size w w' := by
  by_cases hg : s < 1 ∨ 4194304 < s ∨ d < -16384 ∨ 16384 < d
  · rw [show ratioF d s = 9223372036854775807 from if_pos hg]
    by_cases g1 : s < 1
    · clear hg
      go_enter Tryz.func164, Tryz.ntmps164
      go_wp2
      go_ret
      exact ⟨rfl, Below.refl _ _⟩
    by_cases g2 : 4194304 < s
    · clear hg
      go_enter Tryz.func164, Tryz.ntmps164
      go_wp2
      go_ret
      exact ⟨rfl, Below.refl _ _⟩
    by_cases g3 : d < -16384
    · clear hg
      go_enter Tryz.func164, Tryz.ntmps164
      go_wp2
      go_ret
      exact ⟨rfl, Below.refl _ _⟩
    have g4 : 16384 < d := by omega
    clear hg
    go_enter Tryz.func164, Tryz.ntmps164
    go_wp2
    go_ret
    exact ⟨rfl, Below.refl _ _⟩
  rw [show ratioF d s = divF (d * d * 2147483648 * 1099511627776) (s * s) from if_neg hg]
  have a := sq_in (s := d) (by omega) (by omega)
  have b := sq_in (s := s) (by omega) (by omega)
  have a4 : d * d ≤ 268435456 := by
    have q := abs_sq d
    have b0 : 0 ≤ absI d := absI0 d
    have b1 : absI d ≤ 16384 := by unfold absI; split <;> omega
    rw [q]
    exact Int.mul_le_mul b1 b1 b0 (by omega)
  obtain ⟨a0, a1⟩ := a
  obtain ⟨b0, b1⟩ := b
  have CM := muldiv_full (d * d * 2147483648) 1099511627776 (s * s) (by omega) (by omega) (by omega) (by omega) (by omega) (by omega)
  have g1 : decide (s < 1) = false := decide_eq_false (by omega)
  have g2 : decide (4194304 < s) = false := decide_eq_false (by omega)
  have g3 : decide (d < -16384) = false := decide_eq_false (by omega)
  have g4 : decide (16384 < d) = false := decide_eq_false (by omega)
  clear hg
  go_enter Tryz.func164, Tryz.ntmps164
  go_wp2_with (go_at_call 139; (with_reducible refine (CM _).mono ?_); rintro e w1 ⟨rfl, b1⟩)
  go_ret
  exact ⟨rfl, b1⟩
set_option maxHeartbeats 1000000 in
theorem refratio_any (d s : Int) (h0 : -9223372036854775808 ≤ d) (h1 : d ≤ 9223372036854775807) (k0 : -9223372036854775808 ≤ s) (k1 : s ≤ 9223372036854775807) (w : World) :
    Calls Tryz.prog 148 #[.int .i64 d, .int .i64 s] w fun e w' => e = .returned (.int .i64 (ratioF d s)) ∧ Below w.heap.size w w' := by
  by_cases hg : s < 1 ∨ 4194304 < s ∨ d < -16384 ∨ 16384 < d
  · rw [show ratioF d s = 9223372036854775807 from if_pos hg]
    by_cases g1 : s < 1
    · clear hg
      go_enter Tryz.func148, Tryz.ntmps148
      go_wp2
      go_ret
      exact ⟨rfl, Below.refl _ _⟩
    by_cases g2 : 4194304 < s
    · clear hg
      go_enter Tryz.func148, Tryz.ntmps148
      go_wp2
      go_ret
      exact ⟨rfl, Below.refl _ _⟩
    by_cases g3 : d < -16384
    · clear hg
      go_enter Tryz.func148, Tryz.ntmps148
      go_wp2
      go_ret
      exact ⟨rfl, Below.refl _ _⟩
    have g4 : 16384 < d := by omega
    clear hg
    go_enter Tryz.func148, Tryz.ntmps148
    go_wp2
    go_ret
    exact ⟨rfl, Below.refl _ _⟩
  rw [show ratioF d s = divF (d * d * 2147483648 * 1099511627776) (s * s) from if_neg hg]
  have a := sq_in (s := d) (by omega) (by omega)
  have b := sq_in (s := s) (by omega) (by omega)
  have a4 : d * d ≤ 268435456 := by
    have q := abs_sq d
    have b0 : 0 ≤ absI d := absI0 d
    have b1 : absI d ≤ 16384 := by unfold absI; split <;> omega
    rw [q]
    exact Int.mul_le_mul b1 b1 b0 (by omega)
  obtain ⟨a0, a1⟩ := a
  obtain ⟨b0, b1⟩ := b
  have CM := refmuldiv_any (d * d * 2147483648) 1099511627776 (s * s) (by omega) (by omega) (by omega) (by omega) (by omega) (by omega)
  have g1 : decide (s < 1) = false := decide_eq_false (by omega)
  have g2 : decide (4194304 < s) = false := decide_eq_false (by omega)
  have g3 : decide (d < -16384) = false := decide_eq_false (by omega)
  have g4 : decide (16384 < d) = false := decide_eq_false (by omega)
  clear hg
  go_enter Tryz.func148, Tryz.ntmps148
  go_wp2_with (go_at_call 127; (with_reducible refine (CM _).mono ?_); rintro e w1 ⟨rfl, b1⟩)
  go_ret
  exact ⟨rfl, b1⟩
theorem gauss_any (d s : Int) (h0 : -9223372036854775808 ≤ d) (h1 : d ≤ 9223372036854775807) (k0 : -9223372036854775808 ≤ s) (k1 : s ≤ 9223372036854775807) (w : World) :
    Calls Tryz.prog 137 #[.int .i64 d, .int .i64 s] w fun e w' => e = .returned (.int .i64 (gaussF d s)) ∧ Below w.heap.size w w' := by
  have C1 := ratio_any d s h0 h1 k0 k1
  obtain ⟨r0, r1⟩ := ratioF_in d s
  have C2 := exp_any (ratioF d s) r0 r1
  obtain ⟨x0, x1⟩ := expoF_in r1
  have C3 := fixshift_any (expoF (ratioF d s)) 10 x0 x1 (by omega) (by omega)
  unfold gaussF
  generalize shiftF (expoF (ratioF d s)) 10 = z at *
  generalize expoF (ratioF d s) = y at *
  generalize ratioF d s = x at *
  go_enter Tryz.func137, Tryz.ntmps137
  go_wp2_with (first
    | (go_at_call 164; (with_reducible refine (C1 _).mono ?_); rintro e w1 ⟨rfl, b1⟩)
    | (go_at_call 163; (with_reducible refine (C2 _).mono ?_); rintro e w2 ⟨rfl, b2⟩)
    | (go_at_call 60; (with_reducible refine (C3 _).mono ?_); rintro e w3 ⟨rfl, b3⟩))
  go_ret
  exact ⟨rfl, bt (bt b1 b2) b3⟩
theorem refgauss_any (d s : Int) (h0 : -9223372036854775808 ≤ d) (h1 : d ≤ 9223372036854775807) (k0 : -9223372036854775808 ≤ s) (k1 : s ≤ 9223372036854775807) (w : World) :
    Calls Tryz.prog 125 #[.int .i64 d, .int .i64 s] w fun e w' => e = .returned (.int .i64 (gaussF d s)) ∧ Below w.heap.size w w' := by
  have C1 := refratio_any d s h0 h1 k0 k1
  obtain ⟨r0, r1⟩ := ratioF_in d s
  have C2 := refexp_any (ratioF d s) r0 r1
  obtain ⟨x0, x1⟩ := expoF_in r1
  have C3 := refshift_any (expoF (ratioF d s)) 10 x0 x1
  unfold gaussF
  generalize shiftF (expoF (ratioF d s)) 10 = z at *
  generalize expoF (ratioF d s) = y at *
  generalize ratioF d s = x at *
  go_enter Tryz.func125, Tryz.ntmps125
  go_wp2_with (first
    | (go_at_call 148; (with_reducible refine (C1 _).mono ?_); rintro e w1 ⟨rfl, b1⟩)
    | (go_at_call 147; (with_reducible refine (C2 _).mono ?_); rintro e w2 ⟨rfl, b2⟩)
    | (go_at_call 61; (with_reducible refine (C3 _).mono ?_); rintro e w3 ⟨rfl, b3⟩))
  go_ret
  exact ⟨rfl, bt (bt b1 b2) b3⟩
end Go.Proofs.YtaafhjngnjjcmaaGreatDoor

/- Weights that come to one: the document's small calls. -/
namespace Go.Proofs.YtaafhjngnjjcmaaGreatDoor
open Go.RowKit


theorem refplus_any (a b : Int) (h0 : -9223372036854775808 ≤ a) (h1 : a ≤ 9223372036854775807) (k0 : -9223372036854775808 ≤ b) (k1 : b ≤ 9223372036854775807) (w : World) :
    Calls Tryz.prog 149 #[.int .i64 a, .int .i64 b] w fun e w' => e = .returned (.int .i64 (plusH a b)) ∧ w = w' := by
  unfold plusH
  by_cases g : 0 < b
  · by_cases g2 : 9223372036854775807 - b < a
    · rw [holdI_hi (by omega)]
      go_enter Tryz.func149, Tryz.ntmps149
      go_wp2
      go_ret
      exact ⟨rfl, rfl⟩
    · rw [holdI_in (by omega) (by omega)]
      have g3 : ¬ b < 0 := by omega
      go_enter Tryz.func149, Tryz.ntmps149
      go_wp2
      go_ret
      exact ⟨rfl, rfl⟩
  · by_cases g3 : b < 0
    · by_cases g2 : a < -9223372036854775808 - b
      · rw [holdI_lo (by omega)]
        go_enter Tryz.func149, Tryz.ntmps149
        go_wp2
        go_ret
        exact ⟨rfl, rfl⟩
      · rw [holdI_in (by omega) (by omega)]
        go_enter Tryz.func149, Tryz.ntmps149
        go_wp2
        go_ret
        exact ⟨rfl, rfl⟩
    · rw [holdI_in (by omega) (by omega)]
      go_enter Tryz.func149, Tryz.ntmps149
      go_wp2
      go_ret
      exact ⟨rfl, rfl⟩
theorem refsizeH_any (x : Int) (h0 : -9223372036854775808 ≤ x) (h1 : x ≤ 9223372036854775807) (w : World) :
    Calls Tryz.prog 144 #[.int .i64 x] w fun e w' => e = .returned (.int .i64 (absH x)) ∧ w = w' := by
  unfold absH absI
  by_cases g : x < 0
  · rw [if_pos g]
    by_cases g2 : x < -9223372036854775807
    · rw [holdI_hi (by omega)]
      go_enter Tryz.func144, Tryz.ntmps144
      go_wp2
      go_ret
      exact ⟨rfl, rfl⟩
    · rw [holdI_in (by omega) (by omega)]
      go_enter Tryz.func144, Tryz.ntmps144
      go_wp2
      go_ret
      exact ⟨rfl, rfl⟩
  · rw [if_neg g, holdI_in (by omega) (by omega)]
    go_enter Tryz.func144, Tryz.ntmps144
    go_wp2
    go_ret
    exact ⟨rfl, rfl⟩
/-- Numbers that are int64's. -/
def All64 (xs : List Int) : Prop := ∀ j, j < xs.length → -9223372036854775808 ≤ xs.getD j 0 ∧ xs.getD j 0 ≤ 9223372036854775807
theorem refsum_any (xs : List Int) (ad : Option Addr) (cap : Nat) (w : World) (hr : RowAt .i64 w ad xs) (hx : All64 xs) (hl : xs.length ≤ 9223372036854775807) :
    Calls Tryz.prog 145 #[.slice ad xs.length cap] w fun e w' => e = .returned (.int .i64 (sumH xs)) ∧ w = w' := by
  have HR := hide hr
  have HX := hide hx
  clear hr hx
  obtain ⟨n, hn⟩ : ∃ n, xs.length = n := ⟨_, rfl⟩
  have HN := hide hn
  rw [hn] at hl ⊢
  clear hn
  go_enter Tryz.func145, Tryz.ntmps145
  go_wp2
  go_loop [3, 8] (fun s i => ∃ k : Nat, k ≤ n ∧ i = .int .i64 (k : Int) ∧ s = .int .i64 (sumH (xs.take k))) (fun _ i => n - (intOf i).toNat)
  case atStart => exact ⟨0, by omega, rfl, rfl⟩
  case round =>
    obtain ⟨k, hk, rfl, rfl⟩ := hrel
    by_cases hlt : k < n
    · obtain ⟨b, off, rfl, hc⟩ := HR.out.get (show k < xs.length by rw [HN.out]; exact hlt)
      obtain ⟨x0, x1⟩ := HX.out k (by rw [HN.out]; exact hlt)
      obtain ⟨s0, s1⟩ := sumH_in (xs.take k)
      have hs : sumH (xs.take (k + 1)) = plusH (sumH (xs.take k)) (xs.getD k 0) := by rw [take_step xs (by rw [HN.out]; exact hlt), sumH_snoc]
      have HS := hide hs
      clear hs
      have CP := fun w => refplus_any (sumH (xs.take k)) (xs.getD k 0) s0 s1 x0 x1 w
      generalize xs.getD k 0 = x at *
      go_wp2_with (go_at_call 149; (with_reducible refine (CP _).mono ?_); rintro e w1 ⟨rfl, rfl⟩)
      go_round
      case rel => exact ⟨k + 1, by omega, by go_num, by rw [HS.out]⟩
      case measure => simp [intOf]; omega
    · obtain rfl : k = n := by omega
      have e : xs.take k = xs := List.take_of_length_le (by rw [HN.out]; exact Nat.le_refl _)
      have HE := hide e
      clear e
      go_wp2
      go_ret
      exact ⟨ret_i64 (by rw [HE.out]), rfl⟩
theorem refsizes_any (xs : List Int) (ad : Option Addr) (cap : Nat) (w : World) (hr : RowAt .i64 w ad xs) (hx : All64 xs) (hl : xs.length ≤ 9223372036854775807) :
    Calls Tryz.prog 126 #[.slice ad xs.length cap] w fun e w' => e = .returned (.int .i64 (sizeH xs)) ∧ w = w' := by
  have HR := hide hr
  have HX := hide hx
  clear hr hx
  obtain ⟨n, hn⟩ : ∃ n, xs.length = n := ⟨_, rfl⟩
  have HN := hide hn
  rw [hn] at hl ⊢
  clear hn
  go_enter Tryz.func126, Tryz.ntmps126
  go_wp2
  go_loop [3, 8] (fun s i => ∃ k : Nat, k ≤ n ∧ i = .int .i64 (k : Int) ∧ s = .int .i64 (sizeH (xs.take k))) (fun _ i => n - (intOf i).toNat)
  case atStart => exact ⟨0, by omega, rfl, rfl⟩
  case round =>
    obtain ⟨k, hk, rfl, rfl⟩ := hrel
    by_cases hlt : k < n
    · obtain ⟨b, off, rfl, hc⟩ := HR.out.get (show k < xs.length by rw [HN.out]; exact hlt)
      obtain ⟨x0, x1⟩ := HX.out k (by rw [HN.out]; exact hlt)
      obtain ⟨s0, s1⟩ := sizeH_in (xs.take k)
      have hs : sizeH (xs.take (k + 1)) = plusH (sizeH (xs.take k)) (absH (xs.getD k 0)) := by rw [take_step xs (by rw [HN.out]; exact hlt), sizeH_snoc]
      have HS := hide hs
      clear hs
      have CP := fun w => refplus_any (sizeH (xs.take k)) (absH (xs.getD k 0)) (by omega) s1 (holdI0 _) (holdI1 _) w
      have CA := fun w => refsizeH_any (xs.getD k 0) x0 x1 w
      generalize xs.getD k 0 = x at *
      go_wp2_with (first
        | (go_at_call 149; (with_reducible refine (CP _).mono ?_); rintro e w1 ⟨rfl, rfl⟩)
        | (go_at_call 144; (with_reducible refine (CA _).mono ?_); rintro e w1 ⟨rfl, rfl⟩))
      go_round
      case rel => exact ⟨k + 1, by omega, by go_num, by rw [HS.out]⟩
      case measure => simp [intOf]; omega
    · obtain rfl : k = n := by omega
      have e : xs.take k = xs := List.take_of_length_le (by rw [HN.out]; exact Nat.le_refl _)
      have HE := hide e
      clear e
      go_wp2
      go_ret
      exact ⟨ret_i64 (by rw [HE.out]), rfl⟩
end Go.Proofs.YtaafhjngnjjcmaaGreatDoor

/- Lines of a table: plain lists. No number of the program stands in it. -/
namespace Go.Proofs.YtaafhjngnjjcmaaGreatDoor


/-- An output sample's line: its first source sample, and its taps. -/
def lnAt (L : List (Int × List Int)) (j : Nat) : Int × List Int := L.getD j (0, [])
def LineOk (x : Int × List Int) : Prop := -1099511627776 ≤ x.1 ∧ x.1 ≤ 1099511627776 ∧ 1 ≤ x.2.length ∧ x.2.length ≤ 1048576 ∧ All64 x.2
def LinesOk (L : List (Int × List Int)) : Prop := ∀ j, j < L.length → LineOk (lnAt L j)
theorem lnAt_get {L : List (Int × List Int)} {j : Nat} (h : j < L.length) : lnAt L j = L[j] := by
  unfold lnAt; rw [List.getD_eq_getElem?_getD, List.getElem?_eq_getElem h]; rfl
theorem lnAt_old {L : List (Int × List Int)} (x : Int × List Int) {j : Nat} (h : j < L.length) : lnAt (L ++ [x]) j = lnAt L j := by
  unfold lnAt; rw [List.getD_eq_getElem?_getD, List.getD_eq_getElem?_getD, List.getElem?_append_left h]
theorem lnAt_new (L : List (Int × List Int)) (x : Int × List Int) : lnAt (L ++ [x]) L.length = x := by
  unfold lnAt; rw [List.getD_eq_getElem?_getD, List.getElem?_append_right (Nat.le_refl _), Nat.sub_self]; rfl
theorem lnAt_out {L : List (Int × List Int)} {j : Nat} (h : L.length ≤ j) : lnAt L j = (0, []) := by
  unfold lnAt; rw [List.getD_eq_getElem?_getD, List.getElem?_eq_none h]; rfl
theorem lnAt_map (f : Nat → Int × List Int) {m j : Nat} (h : j < m) : lnAt ((List.range m).map f) j = f j := by
  rw [lnAt_get (by rw [List.length_map, List.length_range]; exact h)]
  rw [List.getElem_map, List.getElem_range]
/-! ### What some outputs take -/
def reachStep (s : Int × Int × Bool) (f : Int) (c : Nat) : Int × Int × Bool := if s.2.2 = true then (min s.1 f, max s.2.1 (f + (c : Int)), true) else (f, f + (c : Int), true)
def reachTo (L : List (Int × List Int)) (i k : Int) : Nat → Int × Int × Bool
  | 0 => (0, 0, false)
  | o + 1 => if (o : Int) < i ∨ k ≤ (o : Int) then reachTo L i k o else reachStep (reachTo L i k o) (lnAt L o).1 (lnAt L o).2.length
def reachF (L : List (Int × List Int)) (i k : Int) : Int × Int × Bool := reachTo L i k L.length
/-! ### The most taps, the greatest size -/
def mostTo (L : List (Int × List Int)) : Nat → Int
  | 0 => 0
  | o + 1 => max (mostTo L o) ((lnAt L o).2.length : Int)
def mostF (L : List (Int × List Int)) : Int := mostTo L L.length
def sizeTo (L : List (Int × List Int)) : Nat → Int
  | 0 => 0
  | o + 1 => max (sizeTo L o) (sizeH (lnAt L o).2)
def sizeF (L : List (Int × List Int)) : Int := sizeTo L L.length
end Go.Proofs.YtaafhjngnjjcmaaGreatDoor
