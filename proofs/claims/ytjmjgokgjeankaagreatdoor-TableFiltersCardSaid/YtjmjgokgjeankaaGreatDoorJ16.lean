/- Parts, joined. -/
import Derived.Test.YtjmjgokgjeankaaGreatDoorJ14
import Derived.Test.YtjmjgokgjeankaaGreatDoorJ15
import Derived.Test.YtjmjgokgjeankaaGreatDoorJ06
import Derived.Test.YtjmjgokgjeankaaGreatDoorJ07
import Derived.Test.YtjmjgokgjeankaaGreatDoorJ10
import Derived.Test.YtjmjgokgjeankaaGreatDoorJ01
import Derived.Test.YtjmjgokgjeankaaGreatDoorJ05
import Derived.Deep.RegionHeld3
/- The law on long products, divided by numbers and by powers of two. -/
namespace Go.Proofs.YtjmjgokgjeankaaGreatDoor
open Go.RowKit


theorem sign_mul (a b : Int) : a * b = signI (absI a * absI b) (decide (a < 0) != decide (b < 0)) := by
  obtain ⟨m1, m2, m3, m4⟩ := mul_signs a b
  unfold signI
  by_cases ha : a < 0 <;> by_cases hb : b < 0
  · rw [m1 ha hb, if_neg (by simp [ha, hb])]
  · rw [m2 ha (by omega), if_pos (by simp [ha, hb])]
  · rw [m3 (by omega) hb, if_pos (by simp [ha, hb])]
  · rw [m4 (by omega) (by omega), if_neg (by simp [ha, hb])]
theorem refmulshift_any (a b n : Int) (h0 : -9223372036854775808 ≤ a) (h1 : a ≤ 9223372036854775807) (k0 : -9223372036854775808 ≤ b) (k1 : b ≤ 9223372036854775807) (w : World) :
    Calls Tryz.prog 96 #[.int .i64 a, .int .i64 b, .int .i64 n] w fun e w' => e = .returned (.int .i64 (mulShiftF a b n)) ∧ Below w.heap.size w w' := by
  by_cases hg : 127 < n
  · rw [show mulShiftF a b n = 0 from if_pos hg]
    exact refmulshift_great a b n hg w
  by_cases hs : n ≤ 0
  · rw [show mulShiftF a b n = holdI (a * b) from (if_neg hg).trans (if_pos hs), sign_mul a b]
    exact refmulshift_small a b n _ _ rfl rfl h0 h1 k0 k1 hs w
  obtain ⟨N, rfl⟩ : ∃ N : Nat, n = (N : Int) + 1 := ⟨n.toNat - 1, by omega⟩
  refine refmulshift_mid a b _ _ N _ ?_ rfl rfl h0 h1 k0 k1 (by omega) w
  rw [← shift_up, ← sign_mul]
  unfold mulShiftF
  rw [if_neg hg, if_neg hs, show ((N : Int) + 1).toNat = N + 1 by omega]
theorem near_bool {a b d : Int} (hd : d ≠ 0) (s : Bool) (hs : ((decide (a < 0) != decide (b < 0)) != decide (d < 0)) = s) :
    nearQ (a * b) d = if s = true then -(absI a * absI b / absI d + if absI d < 2 * (absI a * absI b % absI d) then 1 else 0) else absI a * absI b / absI d + if absI d ≤ 2 * (absI a * absI b % absI d) then 1 else 0 := by
  subst hs
  rw [sign_mul a b]
  generalize absI a * absI b = P
  generalize (decide (a < 0) != decide (b < 0)) = t
  have hp : 0 < absI d := by unfold absI; split <;> omega
  unfold nearQ
  by_cases h : d < 0
  · have e : absI d = -d := absI_neg h
    rw [if_pos h, ← e]
    cases t
    · rw [if_pos (by simp [h])]; exact near_below hp
    · rw [if_neg (by simp [h])]
      show (2 * (- -P) + absI d) / (2 * absI d) = _
      rw [Int.neg_neg]; exact near_up hp
  · have e : absI d = d := absI_pos (by omega)
    rw [if_neg h, e]
    rw [e] at hp
    cases t
    · rw [if_neg (by simp [h])]; exact near_up hp
    · rw [if_pos (by simp [h])]; exact near_below hp
theorem nearest_to (x d v : Int) (s : Bool) (hv : holdI (if s = true then -(x / d + if d < 2 * (x % d) then 1 else 0) else x / d + if d ≤ 2 * (x % d) then 1 else 0) = v) (h0 : 0 ≤ x) (h1 : x < 170141183460469231731687303715884105728) (d0 : 0 < d) (d1 : d < 18446744073709551616) (w : World) :
    Calls Tryz.prog 94 #[.agg #[.int .u64 (hi x), .int .u64 (lo x)], .int .u64 d, .bool s] w fun e w' => e = .returned (.int .i64 v) ∧ Below w.heap.size w w' := by
  subst hv
  cases s
  · rw [if_neg (by decide)]; exact near_false x d h0 h1 d0 d1 w
  · rw [if_pos rfl]; exact near_true x d h0 h1 d0 d1 w
set_option maxHeartbeats 1000000 in
theorem refmuldiv_any (a b d : Int) (h0 : -9223372036854775808 ≤ a) (h1 : a ≤ 9223372036854775807) (k0 : -9223372036854775808 ≤ b) (k1 : b ≤ 9223372036854775807) (d0 : -9223372036854775808 ≤ d) (d1 : d ≤ 9223372036854775807) (w : World) :
    Calls Tryz.prog 66 #[.int .i64 a, .int .i64 b, .int .i64 d] w fun e w' => e = .returned (.int .i64 (divF (a * b) d)) ∧ Below w.heap.size w w' := by
  by_cases hz : d = 0
  · subst hz
    rw [divF_zero]
    go_enter Tryz.func66, Tryz.ntmps66
    go_wp2
    go_ret
    exact ⟨rfl, Below.refl _ _⟩
  have dz : (d == 0) = false := beq_eq_false_iff_ne.2 hz
  rw [divF_of hz]
  have NB := near_bool (a := a) (b := b) hz _ rfl
  have CA := refsize_any a h0 h1
  have CB := refsize_any b k0 k1
  have CS := refsize_any d d0 d1
  have a1 : absI a ≤ 9223372036854775808 := absI1 h0 (by omega)
  have b1 : absI b ≤ 9223372036854775808 := absI1 k0 (by omega)
  have hp : 0 < absI d := by unfold absI; split <;> omega
  have hq : absI d ≤ 9223372036854775808 := absI1 d0 (by omega)
  have CT := times_to (absI a) (absI b) _ rfl (absI0 a) (by omega) (absI0 b) (by omega)
  have pp := abs_mul_le h0 h1 k0 k1
  generalize nearQ (a * b) d = V at *
  generalize absI a * absI b = P at *
  generalize absI d = D at *
  have NB2 := hide NB
  clear NB
  obtain ⟨P0, P1⟩ := pp
  cases hta : decide (a < 0) <;> cases htb : decide (b < 0) <;> cases htd : decide (d < 0)
  all_goals
    have nb := NB2.out
    rw [hta, htb, htd] at nb
    clear NB2
    first | (change V = if false = true then _ else _ at nb; have CN := nearest_to P D (holdI V) false (by rw [nb]) P0 (by omega) hp (by omega)) | (change V = if true = true then _ else _ at nb; have CN := nearest_to P D (holdI V) true (by rw [nb]) P0 (by omega) hp (by omega))
    clear nb hz hp hq P0 P1 a1 b1
    go_enter Tryz.func66, Tryz.ntmps66
    go_wp2_with (first
      | (go_at_call 70; (with_reducible refine (CA _).mono ?_); rintro e w' ⟨rfl, rfl⟩)
      | (go_at_call 70; (with_reducible refine (CB _).mono ?_); rintro e w' ⟨rfl, rfl⟩)
      | (go_at_call 93; (with_reducible refine (CT _).mono ?_); rintro e w1 ⟨rfl, b1⟩))
    have n0 := new0L w1 (.int .u64 (hi P)) (.int .u64 (lo P)) 89
    have n1 := new1L w1 (.int .u64 (hi P)) (.int .u64 (lo P)) 89
    have n2 := new_ltL w1 (.cells #[.int .u64 (hi P), .int .u64 (lo P)] 89)
    go_region_held3 (fun w' => w'.cell? ⟨w1.heap.size, 0, none⟩ = some (.int .u64 (hi P)) ∧ w'.cell? ⟨w1.heap.size, 1, none⟩ = some (.int .u64 (lo P)))
      (first | exact ⟨n0, n1⟩ | exact ⟨y0, y1⟩)
      (first
        | (go_at_call 70; (with_reducible refine (CS _).mono ?_); rintro e w' ⟨rfl, rfl⟩)
        | (go_at_call 94; (with_reducible refine (CN _).mono ?_); rintro e w2 ⟨rfl, b2⟩; have y0 := cb b2 n2 n0; have y1 := cb b2 n2 n1))
    all_goals go_wp2
    all_goals go_ret
    all_goals refine ⟨rfl, ?_⟩
    all_goals (repeat (first | exact Below.refl _ _ | with_reducible refine ba ?_ _ | with_reducible refine bs ?_ (by omega) _ | with_reducible refine bd ?_ | (with_reducible refine bt ?_ (by assumption))))
end Go.Proofs.YtjmjgokgjeankaaGreatDoor

/- The program's and the document's exponential function: what each call answers. -/
namespace Go.Proofs.YtjmjgokgjeankaaGreatDoor
open Go.RowKit


theorem refmuldiv_to (a b d v : Int) (hv : divF (a * b) d = v) (h0 : -9223372036854775808 ≤ a) (h1 : a ≤ 9223372036854775807) (k0 : -9223372036854775808 ≤ b) (k1 : b ≤ 9223372036854775807) (d0 : -9223372036854775808 ≤ d) (d1 : d ≤ 9223372036854775807) (w : World) :
    Calls Tryz.prog 66 #[.int .i64 a, .int .i64 b, .int .i64 d] w fun e w' => e = .returned (.int .i64 v) ∧ Below w.heap.size w w' := by
  subst hv
  exact refmuldiv_any a b d h0 h1 k0 k1 d0 d1 w
set_option maxHeartbeats 1000000 in
theorem series_any (r : Int) (h0 : 0 ≤ r) (h1 : r ≤ 1099511627776) (w : World) :
    Calls Tryz.prog 106 #[.int .i64 r] w fun e w' => e = .returned (.int .i64 (sumE r 16)) ∧ Below w.heap.size w w' := by
  go_enter Tryz.func106, Tryz.ntmps106
  go_wp2
  go_loopw [3, 4, 5] (fun s t i wr => ∃ k : Nat, k ≤ 16 ∧ s = .int .i64 (sumE r k) ∧ t = .int .i64 (termE r k) ∧ i = .int .i64 ((k : Int) + 1) ∧ Below w.heap.size w wr) (fun _ _ i _ => 17 - (intOf i).toNat)
  case atStart => exact ⟨0, by omega, rfl, rfl, rfl, Below.refl _ _⟩
  case round =>
    obtain ⟨k, hk, rfl, rfl, rfl, hb⟩ := hrel
    have HB := hide hb
    clear hb
    have t := termE_in h0 h1 k
    have s := sumE_in h0 h1 k
    obtain ⟨t0, t1⟩ := t
    obtain ⟨s0, s1⟩ := s
    by_cases hlt : k < 16
    · have u := termE_in h0 h1 (k + 1)
      obtain ⟨u0, u1⟩ := u
      have CM := muldiv_to (termE r k) r (((k : Int) + 1) * 1099511627776) (termE r (k + 1)) rfl (by omega) (by omega) (by omega) (by omega) (by omega) (by omega)
      have hs : sumE r (k + 1) = if k % 2 = 0 then sumE r k - termE r (k + 1) else sumE r k + termE r (k + 1) := rfl
      have HS := hide hs
      clear hs
      by_cases hp : k % 2 = 0
      · have tst : (((k : Int) + 1) % 2 == 1) = true := beq_iff_eq.2 (by omega)
        have HP := hide hp
        clear hp
        go_wp2_with (go_at_call 51; (with_reducible refine (CM _).mono ?_); rintro e w1 ⟨rfl, b1⟩)
        go_roundw
        case rel => exact ⟨k + 1, by omega, by rw [HS.out, if_pos HP.out], rfl, by go_num, bt HB.out b1⟩
        case measure => simp [intOf]; omega
      · have tst : (((k : Int) + 1) % 2 == 1) = false := beq_eq_false_iff_ne.2 (by omega)
        have HP := hide hp
        clear hp
        go_wp2_with (go_at_call 51; (with_reducible refine (CM _).mono ?_); rintro e w1 ⟨rfl, b1⟩)
        go_roundw
        case rel => exact ⟨k + 1, by omega, by rw [HS.out, if_neg HP.out], rfl, by go_num, bt HB.out b1⟩
        case measure => simp [intOf]; omega
    · obtain rfl : k = 16 := by omega
      go_wp2
      go_ret
      exact ⟨rfl, HB.out⟩
set_option maxHeartbeats 1000000 in
theorem exp_any (t : Int) (_h0 : -9223372036854775808 ≤ t) (h1 : t ≤ 9223372036854775807) (w : World) :
    Calls Tryz.prog 81 #[.int .i64 t] w fun e w' => e = .returned (.int .i64 (expoF t)) ∧ Below w.heap.size w w' := by
  have p := exp_parts (posI0 t) (posI1 h1)
  obtain ⟨p0, p1, p2, p3⟩ := p
  have s := sum16_in p0 p1
  obtain ⟨s0, s1⟩ := s
  have CS := series_any (posI t % 762123384786) p0 (by omega)
  have CH := fixshift_any (sumE (posI t % 762123384786) 16) (posI t / 762123384786) (by omega) (by omega) (by omega) (by omega)
  unfold expoF
  generalize hS : sumE (posI t % 762123384786) 16 = S at *
  clear hS
  have x0 : 0 ≤ max t 0 := posI0 t
  have x1 : max t 0 ≤ 9223372036854775807 := posI1 h1
  unfold posI at *
  go_enter Tryz.func81, Tryz.ntmps81
  go_wp2_with (first
    | (go_at_call 106; (with_reducible refine (CS _).mono ?_); rintro e w1 ⟨rfl, b1⟩)
    | (go_at_call 80; (with_reducible refine (CH _).mono ?_); rintro e w2 ⟨rfl, b2⟩))
  go_ret
  exact ⟨rfl, bt b1 b2⟩
set_option maxHeartbeats 1000000 in
theorem ratio_any (d s : Int) (h0 : -9223372036854775808 ≤ d) (h1 : d ≤ 9223372036854775807) (k0 : -9223372036854775808 ≤ s) (k1 : s ≤ 9223372036854775807) (w : World) :
    Calls Tryz.prog 82 #[.int .i64 d, .int .i64 s] w fun e w' => e = .returned (.int .i64 (ratioF d s)) ∧ Below w.heap.size w w' := by
  by_cases hg : s < 1 ∨ 4194304 < s ∨ d < -16384 ∨ 16384 < d
  · rw [show ratioF d s = 9223372036854775807 from if_pos hg]
    by_cases g1 : s < 1
    · clear hg
      go_enter Tryz.func82, Tryz.ntmps82
      go_wp2
      go_ret
      exact ⟨rfl, Below.refl _ _⟩
    by_cases g2 : 4194304 < s
    · clear hg
      go_enter Tryz.func82, Tryz.ntmps82
      go_wp2
      go_ret
      exact ⟨rfl, Below.refl _ _⟩
    by_cases g3 : d < -16384
    · clear hg
      go_enter Tryz.func82, Tryz.ntmps82
      go_wp2
      go_ret
      exact ⟨rfl, Below.refl _ _⟩
    have g4 : 16384 < d := by omega
    clear hg
    go_enter Tryz.func82, Tryz.ntmps82
    go_wp2
    go_ret
    exact ⟨rfl, Below.refl _ _⟩
  rw [show ratioF d s = divF (d * d * 2147483648 * 1099511627776) (s * s) from if_neg hg]
  have a := sq_in (s := d) (by omega) (by omega)
  have b := sq_in (s := s) (by omega) (by omega)
  have a4 : d * d ≤ 268435456 := by
    have q := abs_sq d
    have b0 : 0 ≤ absI d := absI0 d
    have b1 : absI d ≤ 16384 := by unfold absI; split <;> omega
    rw [q]
    exact Int.mul_le_mul b1 b1 b0 (by omega)
  obtain ⟨a0, a1⟩ := a
  obtain ⟨b0, b1⟩ := b
  have CM := muldiv_full (d * d * 2147483648) 1099511627776 (s * s) (by omega) (by omega) (by omega) (by omega) (by omega) (by omega)
  have g1 : decide (s < 1) = false := decide_eq_false (by omega)
  have g2 : decide (4194304 < s) = false := decide_eq_false (by omega)
  have g3 : decide (d < -16384) = false := decide_eq_false (by omega)
  have g4 : decide (16384 < d) = false := decide_eq_false (by omega)
  clear hg
  go_enter Tryz.func82, Tryz.ntmps82
  go_wp2_with (go_at_call 51; (with_reducible refine (CM _).mono ?_); rintro e w1 ⟨rfl, b1⟩)
  go_ret
  exact ⟨rfl, b1⟩
theorem gauss_any (d s : Int) (h0 : -9223372036854775808 ≤ d) (h1 : d ≤ 9223372036854775807) (k0 : -9223372036854775808 ≤ s) (k1 : s ≤ 9223372036854775807) (w : World) :
    Calls Tryz.prog 53 #[.int .i64 d, .int .i64 s] w fun e w' => e = .returned (.int .i64 (gaussF d s)) ∧ Below w.heap.size w w' := by
  have C1 := ratio_any d s h0 h1 k0 k1
  obtain ⟨r0, r1⟩ := ratioF_in d s
  have C2 := exp_any (ratioF d s) r0 r1
  obtain ⟨x0, x1⟩ := expoF_in r1
  have C3 := fixshift_any (expoF (ratioF d s)) 10 x0 x1 (by omega) (by omega)
  unfold gaussF
  generalize shiftF (expoF (ratioF d s)) 10 = z at *
  generalize expoF (ratioF d s) = y at *
  generalize ratioF d s = x at *
  go_enter Tryz.func53, Tryz.ntmps53
  go_wp2_with (first
    | (go_at_call 82; (with_reducible refine (C1 _).mono ?_); rintro e w1 ⟨rfl, b1⟩)
    | (go_at_call 81; (with_reducible refine (C2 _).mono ?_); rintro e w2 ⟨rfl, b2⟩)
    | (go_at_call 80; (with_reducible refine (C3 _).mono ?_); rintro e w3 ⟨rfl, b3⟩))
  go_ret
  exact ⟨rfl, bt (bt b1 b2) b3⟩
end Go.Proofs.YtjmjgokgjeankaaGreatDoor

/- Weights that come to one: the document's small calls. -/
namespace Go.Proofs.YtjmjgokgjeankaaGreatDoor
open Go.RowKit


theorem refplus_any (a b : Int) (h0 : -9223372036854775808 ≤ a) (h1 : a ≤ 9223372036854775807) (k0 : -9223372036854775808 ≤ b) (k1 : b ≤ 9223372036854775807) (w : World) :
    Calls Tryz.prog 50 #[.int .i64 a, .int .i64 b] w fun e w' => e = .returned (.int .i64 (plusH a b)) ∧ w = w' := by
  unfold plusH
  by_cases g : 0 < b
  · by_cases g2 : 9223372036854775807 - b < a
    · rw [holdI_hi (by omega)]
      go_enter Tryz.func50, Tryz.ntmps50
      go_wp2
      go_ret
      exact ⟨rfl, rfl⟩
    · rw [holdI_in (by omega) (by omega)]
      have g3 : ¬ b < 0 := by omega
      go_enter Tryz.func50, Tryz.ntmps50
      go_wp2
      go_ret
      exact ⟨rfl, rfl⟩
  · by_cases g3 : b < 0
    · by_cases g2 : a < -9223372036854775808 - b
      · rw [holdI_lo (by omega)]
        go_enter Tryz.func50, Tryz.ntmps50
        go_wp2
        go_ret
        exact ⟨rfl, rfl⟩
      · rw [holdI_in (by omega) (by omega)]
        go_enter Tryz.func50, Tryz.ntmps50
        go_wp2
        go_ret
        exact ⟨rfl, rfl⟩
    · rw [holdI_in (by omega) (by omega)]
      go_enter Tryz.func50, Tryz.ntmps50
      go_wp2
      go_ret
      exact ⟨rfl, rfl⟩
theorem refsizeH_any (x : Int) (h0 : -9223372036854775808 ≤ x) (h1 : x ≤ 9223372036854775807) (w : World) :
    Calls Tryz.prog 47 #[.int .i64 x] w fun e w' => e = .returned (.int .i64 (absH x)) ∧ w = w' := by
  unfold absH absI
  by_cases g : x < 0
  · rw [if_pos g]
    by_cases g2 : x < -9223372036854775807
    · rw [holdI_hi (by omega)]
      go_enter Tryz.func47, Tryz.ntmps47
      go_wp2
      go_ret
      exact ⟨rfl, rfl⟩
    · rw [holdI_in (by omega) (by omega)]
      go_enter Tryz.func47, Tryz.ntmps47
      go_wp2
      go_ret
      exact ⟨rfl, rfl⟩
  · rw [if_neg g, holdI_in (by omega) (by omega)]
    go_enter Tryz.func47, Tryz.ntmps47
    go_wp2
    go_ret
    exact ⟨rfl, rfl⟩
/-- Numbers that are int64's. -/
def All64 (xs : List Int) : Prop := ∀ j, j < xs.length → -9223372036854775808 ≤ xs.getD j 0 ∧ xs.getD j 0 ≤ 9223372036854775807
theorem refsum_any (xs : List Int) (ad : Option Addr) (cap : Nat) (w : World) (hr : RowAt .i64 w ad xs) (hx : All64 xs) (hl : xs.length ≤ 9223372036854775807) :
    Calls Tryz.prog 48 #[.slice ad xs.length cap] w fun e w' => e = .returned (.int .i64 (sumH xs)) ∧ w = w' := by
  have HR := hide hr
  have HX := hide hx
  clear hr hx
  obtain ⟨n, hn⟩ : ∃ n, xs.length = n := ⟨_, rfl⟩
  have HN := hide hn
  rw [hn] at hl ⊢
  clear hn
  go_enter Tryz.func48, Tryz.ntmps48
  go_wp2
  go_loop [3, 8] (fun s i => ∃ k : Nat, k ≤ n ∧ i = .int .i64 (k : Int) ∧ s = .int .i64 (sumH (xs.take k))) (fun _ i => n - (intOf i).toNat)
  case atStart => exact ⟨0, by omega, rfl, rfl⟩
  case round =>
    obtain ⟨k, hk, rfl, rfl⟩ := hrel
    by_cases hlt : k < n
    · obtain ⟨b, off, rfl, hc⟩ := HR.out.get (show k < xs.length by rw [HN.out]; exact hlt)
      obtain ⟨x0, x1⟩ := HX.out k (by rw [HN.out]; exact hlt)
      obtain ⟨s0, s1⟩ := sumH_in (xs.take k)
      have hs : sumH (xs.take (k + 1)) = plusH (sumH (xs.take k)) (xs.getD k 0) := by rw [take_step xs (by rw [HN.out]; exact hlt), sumH_snoc]
      have HS := hide hs
      clear hs
      have CP := fun w => refplus_any (sumH (xs.take k)) (xs.getD k 0) s0 s1 x0 x1 w
      generalize xs.getD k 0 = x at *
      go_wp2_with (go_at_call 50; (with_reducible refine (CP _).mono ?_); rintro e w1 ⟨rfl, rfl⟩)
      go_round
      case rel => exact ⟨k + 1, by omega, by go_num, by rw [HS.out]⟩
      case measure => simp [intOf]; omega
    · obtain rfl : k = n := by omega
      have e : xs.take k = xs := List.take_of_length_le (by rw [HN.out]; exact Nat.le_refl _)
      have HE := hide e
      clear e
      go_wp2
      go_ret
      exact ⟨ret_i64 (by rw [HE.out]), rfl⟩
theorem refsizes_any (xs : List Int) (ad : Option Addr) (cap : Nat) (w : World) (hr : RowAt .i64 w ad xs) (hx : All64 xs) (hl : xs.length ≤ 9223372036854775807) :
    Calls Tryz.prog 26 #[.slice ad xs.length cap] w fun e w' => e = .returned (.int .i64 (sizeH xs)) ∧ w = w' := by
  have HR := hide hr
  have HX := hide hx
  clear hr hx
  obtain ⟨n, hn⟩ : ∃ n, xs.length = n := ⟨_, rfl⟩
  have HN := hide hn
  rw [hn] at hl ⊢
  clear hn
  go_enter Tryz.func26, Tryz.ntmps26
  go_wp2
  go_loop [3, 8] (fun s i => ∃ k : Nat, k ≤ n ∧ i = .int .i64 (k : Int) ∧ s = .int .i64 (sizeH (xs.take k))) (fun _ i => n - (intOf i).toNat)
  case atStart => exact ⟨0, by omega, rfl, rfl⟩
  case round =>
    obtain ⟨k, hk, rfl, rfl⟩ := hrel
    by_cases hlt : k < n
    · obtain ⟨b, off, rfl, hc⟩ := HR.out.get (show k < xs.length by rw [HN.out]; exact hlt)
      obtain ⟨x0, x1⟩ := HX.out k (by rw [HN.out]; exact hlt)
      obtain ⟨s0, s1⟩ := sizeH_in (xs.take k)
      have hs : sizeH (xs.take (k + 1)) = plusH (sizeH (xs.take k)) (absH (xs.getD k 0)) := by rw [take_step xs (by rw [HN.out]; exact hlt), sizeH_snoc]
      have HS := hide hs
      clear hs
      have CP := fun w => refplus_any (sizeH (xs.take k)) (absH (xs.getD k 0)) (by omega) s1 (holdI0 _) (holdI1 _) w
      have CA := fun w => refsizeH_any (xs.getD k 0) x0 x1 w
      generalize xs.getD k 0 = x at *
      go_wp2_with (first
        | (go_at_call 50; (with_reducible refine (CP _).mono ?_); rintro e w1 ⟨rfl, rfl⟩)
        | (go_at_call 47; (with_reducible refine (CA _).mono ?_); rintro e w1 ⟨rfl, rfl⟩))
      go_round
      case rel => exact ⟨k + 1, by omega, by go_num, by rw [HS.out]⟩
      case measure => simp [intOf]; omega
    · obtain rfl : k = n := by omega
      have e : xs.take k = xs := List.take_of_length_le (by rw [HN.out]; exact Nat.le_refl _)
      have HE := hide e
      clear e
      go_wp2
      go_ret
      exact ⟨ret_i64 (by rw [HE.out]), rfl⟩
end Go.Proofs.YtjmjgokgjeankaaGreatDoor
