/- Parts, joined. -/
import Derived.Test.YtaafhjngnjjcmaaGreatDoorJ12
import Derived.Test.YtaafhjngnjjcmaaGreatDoorJ01
import Derived.Test.YtaafhjngnjjcmaaGreatDoorJ03
import Derived.Test.YtaafhjngnjjcmaaGreatDoorJ07
import Derived.Test.YtaafhjngnjjcmaaGreatDoorJ10
import Derived.Laws.FloatArith
import Derived.RowKit
import Derived.WalkLawsBesides
/- Lines of a table: what the document's calls answer. -/
namespace Go.Proofs.YtaafhjngnjjcmaaGreatDoor
open Go.RowKit

/-! ### The tables that the document makes -/
/-- What a resize answers: its code, and its lines. -/
def sideB (n : Int) : Bool := decide (1 ≤ n) && decide (n ≤ 65536)
theorem sideB_iff (n : Int) : sideB n = true ↔ 1 ≤ n ∧ n ≤ 65536 := by unfold sideB; simp
theorem refside_yes (n : Int) (h0 : 1 ≤ n) (h1 : n ≤ 65536) (w : World) :
    Calls Tryz.prog 122 #[.int .i64 n] w fun e w' => e = .returned (.bool true) ∧ w = w' := by
  go_enter Tryz.func122, Tryz.ntmps122
  go_wp2
  go_ret
  first | exact ⟨rfl, rfl⟩ | exact ⟨ret_bool (decide_eq_true (by omega)), rfl⟩
theorem refside_no (n : Int) (h : n < 1 ∨ 65536 < n) (w : World) :
    Calls Tryz.prog 122 #[.int .i64 n] w fun e w' => e = .returned (.bool false) ∧ w = w' := by
  rcases h with h | h
  all_goals
    go_enter Tryz.func122, Tryz.ntmps122
    go_wp2
    go_ret
    first | exact ⟨rfl, rfl⟩ | exact ⟨ret_bool (decide_eq_false (by omega)), rfl⟩
theorem infoLnR : (Tryz.prog.info? 100).map (fun i => (i.zero, i.size, i.bytes)) = some (some (.agg #[.int .i64 0, .slice none 0 0]), 2, 32) := by kernel_rfl
theorem app_own (xs : List Int) (ad : Option Addr) (cap : Nat) (w : World) (hr : RowAt .i64 w ad xs) (hx : All64 xs) (hl : xs.length ≤ 9223372036854775807) :
    Calls Tryz.prog 124 #[.slice ad xs.length cap] w fun e w' => ∃ v, e = .returned (.tuple #[v, .int .i64 (appCode xs)]) ∧ (appCode xs = 0 → OwnI .i64 2 w' w.heap.size v (appR xs)) ∧ Below w.heap.size w w' := by
  by_cases hf : Fits xs
  · rw [appCode_fits.2 hf]
    refine (refapp_fits xs ad cap w hr hx hf).mono ?_
    rintro e w1 ⟨v, rfl, o, b⟩
    exact ⟨v, rfl, fun _ => o, b⟩
  · refine (refapp_any xs ad cap w hr hx hl).mono ?_
    rintro e w1 ⟨v, rfl, _, b⟩
    exact ⟨v, rfl, (fun g => absurd (appCode_fits.1 g) hf), b⟩
end Go.Proofs.YtaafhjngnjjcmaaGreatDoor

/- The sine, divided by what it is of, in integers: plain arithmetic. -/
namespace Go.Proofs.YtaafhjngnjjcmaaGreatDoor
open Go.RowKit


/-- The i-th divisor, for i = k + 1. -/
def divS (k : Nat) : Int := 2 * ((k : Int) + 1) * (2 * ((k : Int) + 1) + 1) * 1099511627776
/-- The terms, and their sum, with signs in turn. -/
def termS (u : Int) : Nat → Int
  | 0 => 1099511627776
  | n + 1 => divF (termS u n * u) (divS n)
def sumS (u : Int) : Nat → Int
  | 0 => 1099511627776
  | n + 1 => if n % 2 = 0 then sumS u n - termS u (n + 1) else sumS u n + termS u (n + 1)
/-- Above the terms. -/
def topS : Nat → Int
  | 0 => 1099511627776
  | n + 1 => topS n * 173627916808752 / divS n + 1
def uF (p q : Int) : Int := divF (divF (10851744800547 * p) q * p) q
def mayF (p q : Int) : Bool := decide (1 ≤ q) && decide (q ≤ 1048576) && decide (-4 * q ≤ p) && decide (p ≤ 4 * q)
def seriesF (p q : Int) : Int := sumS (uF (absI p) q) 30
def lanczosF (p q : Int) : Int := if mayF p q = true ∧ -3 * q < p ∧ p < 3 * q then shiftF (mulShiftF (seriesF p q) (seriesF p (3 * q)) 40) 10 else 0
theorem divS_in : ∀ k < 30, 6 * 1099511627776 ≤ divS k ∧ divS k ≤ 3660 * 1099511627776 := by decide
theorem mulS_in : ∀ k : Nat, k < 30 → 6 ≤ 2 * ((k : Int) + 1) * (2 * ((k : Int) + 1) + 1) ∧ 2 * ((k : Int) + 1) * (2 * ((k : Int) + 1) + 1) ≤ 3660 := by decide
theorem topS_in : ∀ k < 31, 1 ≤ topS k ∧ topS k ≤ 4503599627370496 := by decide +kernel
theorem termS_in {u : Int} (h0 : 0 ≤ u) (h1 : u ≤ 173627916808752) (n : Nat) (hn : n < 31) : 0 ≤ termS u n ∧ termS u n ≤ topS n := by
  induction n with
  | zero => simp [termS, topS]
  | succ n ih =>
    obtain ⟨a0, a1⟩ := ih (by omega)
    obtain ⟨d0, d1⟩ := divS_in n (by omega)
    obtain ⟨t0, t1⟩ := topS_in n (by omega)
    obtain ⟨_, t3⟩ := topS_in (n + 1) hn
    have p0 : 0 ≤ termS u n * u := Int.mul_nonneg a0 h0
    have p1 : termS u n * u ≤ topS n * 173627916808752 := Int.mul_le_mul a1 h1 h0 (by omega)
    have p2 : topS n * 173627916808752 < (topS n * 173627916808752 / divS n + 1) * divS n := Int.lt_mul_of_ediv_lt (by omega) (by omega)
    have q := near_in (X := termS u n * u) (d := divS n) (m := topS (n + 1)) (by omega) p0 (by
      show _ ≤ (topS n * 173627916808752 / divS n + 1) * divS n
      omega)
    show 0 ≤ divF _ _ ∧ divF _ _ ≤ _
    rw [divF_of (by omega), holdI_in (by omega) (by omega)]
    exact q
theorem termS_all {u : Int} (h0 : 0 ≤ u) (h1 : u ≤ 173627916808752) (n : Nat) (hn : n < 31) : 0 ≤ termS u n ∧ termS u n ≤ 4503599627370496 := by
  obtain ⟨a, b⟩ := termS_in h0 h1 n hn
  obtain ⟨_, d⟩ := topS_in n hn
  exact ⟨a, by omega⟩
theorem sumS_in {u : Int} (h0 : 0 ≤ u) (h1 : u ≤ 173627916808752) (n : Nat) (hn : n < 31) : -(((n : Int) + 1) * 4503599627370496) ≤ sumS u n ∧ sumS u n ≤ ((n : Int) + 1) * 4503599627370496 := by
  induction n with
  | zero => simp [sumS]
  | succ n ih =>
    have t := termS_all h0 h1 (n + 1) hn
    have := ih (by omega)
    unfold sumS
    split <;> omega
/-- The two steps ahead of the terms. -/
theorem uF_in {p q : Int} (hq : 0 < q) (h0 : 0 ≤ p) (h1 : p ≤ 4 * q) : 0 ≤ divF (10851744800547 * p) q ∧ divF (10851744800547 * p) q ≤ 43406979202188 ∧ 0 ≤ uF p q ∧ uF p q ≤ 173627916808752 := by
  have a := near_in (X := 10851744800547 * p) (d := q) (m := 43406979202188) hq (by omega) (by omega)
  have e1 : divF (10851744800547 * p) q = nearQ (10851744800547 * p) q := by rw [divF_of (by omega), holdI_in (by omega) (by omega)]
  unfold uF
  rw [e1]
  generalize nearQ (10851744800547 * p) q = v at *
  obtain ⟨a0, a1⟩ := a
  have p0 : 0 ≤ v * p := Int.mul_nonneg a0 h0
  have p1 : v * p ≤ 43406979202188 * (4 * q) := Int.mul_le_mul a1 h1 h0 (by omega)
  have b := near_in (X := v * p) (d := q) (m := 173627916808752) hq p0 (by omega)
  rw [divF_of (by omega), holdI_in (by omega) (by omega)]
  exact ⟨a0, a1, b⟩
theorem abs_small {p q : Int} (h0 : -(4 * q) ≤ p) (h1 : p ≤ 4 * q) : 0 ≤ absI p ∧ absI p ≤ 4 * q := by
  unfold absI; split <;> omega
theorem seriesF_in {p q : Int} (hq : 0 < q) (h0 : -(4 * q) ≤ p) (h1 : p ≤ 4 * q) : -139611588448485376 ≤ seriesF p q ∧ seriesF p q ≤ 139611588448485376 := by
  obtain ⟨a0, a1⟩ := abs_small h0 h1
  obtain ⟨_, _, u0, u1⟩ := uF_in hq a0 a1
  have := sumS_in u0 u1 30 (by omega)
  unfold seriesF
  omega
theorem mayF_at (p q : Int) : (mayF p q = true ∧ 1 ≤ q ∧ q ≤ 1048576 ∧ -4 * q ≤ p ∧ p ≤ 4 * q) ∨ (mayF p q = false ∧ (q < 1 ∨ 1048576 < q ∨ p < -4 * q ∨ 4 * q < p)) := by
  unfold mayF
  by_cases a : 1 ≤ q <;> by_cases b : q ≤ 1048576 <;> by_cases c : -4 * q ≤ p <;> by_cases d : p ≤ 4 * q <;> simp [a, b, c, d] <;> omega
theorem abs_minus (p : Int) : absI (-p) = absI p := by unfold absI; split <;> split <;> omega
theorem seriesF_neg (p q : Int) : seriesF (-p) q = seriesF p q := by unfold seriesF; rw [abs_minus]
theorem mayF_neg (p q : Int) : mayF (-p) q = mayF p q := by
  have a := mayF_at p q
  have b := mayF_at (-p) q
  rcases a with ⟨a1, a2⟩ | ⟨a1, a2⟩ <;> rcases b with ⟨b1, b2⟩ | ⟨b1, b2⟩ <;> first | (exfalso; omega) | rw [b1, a1]
theorem lanczosF_neg (p q : Int) : lanczosF (-p) q = lanczosF p q := by
  have e : (-3 * q < -p ∧ -p < 3 * q) ↔ (-3 * q < p ∧ p < 3 * q) := by omega
  unfold lanczosF; rw [mayF_neg, seriesF_neg, seriesF_neg]; simp only [e]
end Go.Proofs.YtaafhjngnjjcmaaGreatDoor

/- The sine's series in integers, and the polynomial that it stands for. -/
namespace Go.Proofs.YtaafhjngnjjcmaaGreatDoor
open Go.RowKit


theorem near_err {X d : Int} (hd : 0 < d) : -d ≤ 2 * (d * nearQ X d) - 2 * X ∧ 2 * (d * nearQ X d) - 2 * X ≤ d := by
  unfold nearQ
  rw [if_neg (by omega)]
  have e := Int.mul_ediv_add_emod (2 * X + d) (2 * d)
  have r0 := Int.emod_nonneg (2 * X + d) (show 2 * d ≠ 0 by omega)
  have r1 := Int.emod_lt_of_pos (2 * X + d) (show 0 < 2 * d by omega)
  rw [Int.mul_assoc] at e
  omega
end Go.Proofs.YtaafhjngnjjcmaaGreatDoor

/- The program's and the document's sinc: what each call answers. -/
namespace Go.Proofs.YtaafhjngnjjcmaaGreatDoor
open Go.RowKit


theorem mulshift_to (a b n v : Int) (hv : mulShiftF a b n = v) (h0 : -9223372036854775808 ≤ a) (h1 : a ≤ 9223372036854775807) (k0 : -9223372036854775808 ≤ b) (k1 : b ≤ 9223372036854775807) (w : World) :
    Calls Tryz.prog 179 #[.int .i64 a, .int .i64 b, .int .i64 n] w fun e w' => e = .returned (.int .i64 v) ∧ Below w.heap.size w w' := by
  subst hv
  exact mulshift_any a b n h0 h1 k0 k1 w
theorem refmulshift_to (a b n v : Int) (hv : mulShiftF a b n = v) (h0 : -9223372036854775808 ≤ a) (h1 : a ≤ 9223372036854775807) (k0 : -9223372036854775808 ≤ b) (k1 : b ≤ 9223372036854775807) (w : World) :
    Calls Tryz.prog 190 #[.int .i64 a, .int .i64 b, .int .i64 n] w fun e w' => e = .returned (.int .i64 v) ∧ Below w.heap.size w w' := by
  subst hv
  exact refmulshift_any a b n h0 h1 k0 k1 w
theorem mulShiftF_in (a b n : Int) : -9223372036854775808 ≤ mulShiftF a b n ∧ mulShiftF a b n ≤ 9223372036854775807 := by
  unfold mulShiftF
  split
  · omega
  · split <;> exact ⟨holdI0 _, holdI1 _⟩
set_option maxRecDepth 100000 in
set_option maxHeartbeats 1000000 in
theorem sseries_at (p q P v u : Int) (hP : absI p = P) (hv : divF (10851744800547 * P) q = v) (hu : divF (v * P) q = u) (q0 : 0 < q) (q1 : q ≤ 3145728) (P0 : 0 ≤ P) (P1 : P ≤ 4 * q) (v0 : 0 ≤ v) (v1 : v ≤ 43406979202188) (u0 : 0 ≤ u) (u1 : u ≤ 173627916808752) (w : World) :
    Calls Tryz.prog 180 #[.int .i64 p, .int .i64 q] w fun e w' => e = .returned (.int .i64 (sumS u 30)) ∧ Below w.heap.size w w' := by
  have C1 := muldiv_to 10851744800547 P q v hv (by omega) (by omega) (by omega) (by omega) (by omega) (by omega)
  have C2 := muldiv_to v P q u hu (by omega) (by omega) (by omega) (by omega) (by omega) (by omega)
  have hp : (decide (p < 0) = true ∧ -p = P) ∨ (decide (p < 0) = false ∧ p = P) := by
    unfold absI at hP
    by_cases h : p < 0
    · rw [if_pos h] at hP; exact Or.inl ⟨decide_eq_true h, hP⟩
    · rw [if_neg h] at hP; exact Or.inr ⟨decide_eq_false h, hP⟩
  clear hv hu hP
  rcases hp with ⟨g, rfl⟩ | ⟨g, rfl⟩
  all_goals
    go_enter Tryz.func180, Tryz.ntmps180
    go_wp2_with (first
      | (go_at_call 139; (with_reducible refine (C1 _).mono ?_); rintro e w1 ⟨rfl, b1⟩)
      | (go_at_call 139; (with_reducible refine (C2 _).mono ?_); rintro e w2 ⟨rfl, b2⟩))
    go_loopw [6, 7, 8] (fun s t i wr => ∃ k : Nat, k ≤ 30 ∧ s = .int .i64 (sumS u k) ∧ t = .int .i64 (termS u k) ∧ i = .int .i64 ((k : Int) + 1) ∧ Below w.heap.size w wr) (fun _ _ i _ => 31 - (intOf i).toNat)
    case atStart => exact ⟨0, by omega, rfl, rfl, rfl, bt b1 b2⟩
    case round =>
      obtain ⟨k, hk, rfl, rfl, rfl, hb⟩ := hrel
      have HB := hide hb
      clear hb b1 b2
      obtain ⟨t0, t1⟩ := termS_all u0 u1 k (by omega)
      obtain ⟨s0, s1⟩ := sumS_in u0 u1 k (by omega)
      by_cases hlt : k < 30
      · obtain ⟨x0, x1⟩ := termS_all u0 u1 (k + 1) (by omega)
        obtain ⟨m0, m1⟩ := mulS_in k hlt
        have CM := muldiv_to (termS u k) u (2 * ((k : Int) + 1) * (2 * ((k : Int) + 1) + 1) * 1099511627776) (termS u (k + 1)) rfl (by omega) (by omega) (by omega) (by omega) (by omega) (by omega)
        have hs : sumS u (k + 1) = if k % 2 = 0 then sumS u k - termS u (k + 1) else sumS u k + termS u (k + 1) := rfl
        have HS := hide hs
        clear hs
        by_cases hp : k % 2 = 0
        · have tst : (((k : Int) + 1) % 2 == 1) = true := beq_iff_eq.2 (by omega)
          have HP := hide hp
          clear hp
          go_wp2_with (go_at_call 139; (with_reducible refine (CM _).mono ?_); rintro e w3 ⟨rfl, b3⟩)
          go_roundw
          case rel => exact ⟨k + 1, by omega, by rw [HS.out, if_pos HP.out], rfl, by go_num, bt HB.out b3⟩
          case measure => simp [intOf]; omega
        · have tst : (((k : Int) + 1) % 2 == 1) = false := beq_eq_false_iff_ne.2 (by omega)
          have HP := hide hp
          clear hp
          go_wp2_with (go_at_call 139; (with_reducible refine (CM _).mono ?_); rintro e w3 ⟨rfl, b3⟩)
          go_roundw
          case rel => exact ⟨k + 1, by omega, by rw [HS.out, if_neg HP.out], rfl, by go_num, bt HB.out b3⟩
          case measure => simp [intOf]; omega
      · obtain rfl : k = 30 := by omega
        go_wp2
        go_ret
        exact ⟨rfl, HB.out⟩
theorem sseries_any (p q : Int) (q0 : 0 < q) (q1 : q ≤ 3145728) (h0 : -(4 * q) ≤ p) (h1 : p ≤ 4 * q) (w : World) :
    Calls Tryz.prog 180 #[.int .i64 p, .int .i64 q] w fun e w' => e = .returned (.int .i64 (seriesF p q)) ∧ Below w.heap.size w w' := by
  obtain ⟨a0, a1⟩ := abs_small h0 h1
  obtain ⟨v0, v1, u0, u1⟩ := uF_in q0 a0 a1
  exact sseries_at p q _ _ _ rfl rfl rfl q0 q1 a0 a1 v0 v1 u0 u1 w
set_option maxRecDepth 100000 in
set_option maxHeartbeats 1000000 in
theorem refseries_at (p q P v u : Int) (hP : absI p = P) (hv : divF (10851744800547 * P) q = v) (hu : divF (v * P) q = u) (q0 : 0 < q) (q1 : q ≤ 3145728) (P0 : 0 ≤ P) (P1 : P ≤ 4 * q) (v0 : 0 ≤ v) (v1 : v ≤ 43406979202188) (u0 : 0 ≤ u) (u1 : u ≤ 173627916808752) (w : World) :
    Calls Tryz.prog 191 #[.int .i64 p, .int .i64 q] w fun e w' => e = .returned (.int .i64 (sumS u 30)) ∧ Below w.heap.size w w' := by
  have C1 := refmuldiv_to 10851744800547 P q v hv (by omega) (by omega) (by omega) (by omega) (by omega) (by omega)
  have C2 := refmuldiv_to v P q u hu (by omega) (by omega) (by omega) (by omega) (by omega) (by omega)
  have hp : (decide (p < 0) = true ∧ -p = P) ∨ (decide (p < 0) = false ∧ p = P) := by
    unfold absI at hP
    by_cases h : p < 0
    · rw [if_pos h] at hP; exact Or.inl ⟨decide_eq_true h, hP⟩
    · rw [if_neg h] at hP; exact Or.inr ⟨decide_eq_false h, hP⟩
  clear hv hu hP
  rcases hp with ⟨g, rfl⟩ | ⟨g, rfl⟩
  all_goals
    go_enter Tryz.func191, Tryz.ntmps191
    go_wp2_with (first
      | (go_at_call 127; (with_reducible refine (C1 _).mono ?_); rintro e w1 ⟨rfl, b1⟩)
      | (go_at_call 127; (with_reducible refine (C2 _).mono ?_); rintro e w2 ⟨rfl, b2⟩))
    go_loopw [7, 8, 9, 10] (fun a m t i wr => ∃ (k : Nat) (A M : Int), k ≤ 30 ∧ A - M = sumS u k ∧ 0 ≤ A ∧ 0 ≤ M ∧ A ≤ ((k : Int) + 1) * 4503599627370496 ∧ M ≤ ((k : Int) + 1) * 4503599627370496 ∧ a = .int .i64 A ∧ m = .int .i64 M ∧ t = .int .i64 (termS u k) ∧ i = .int .i64 ((k : Int) + 1) ∧ Below w.heap.size w wr) (fun _ _ _ i _ => 31 - (intOf i).toNat)
    case atStart => exact ⟨0, 1099511627776, 0, by omega, rfl, by omega, by omega, by omega, by omega, rfl, rfl, rfl, rfl, bt b1 b2⟩
    case round =>
      obtain ⟨k, A, M, hk, hs0, A0, M0, A1, M1, rfl, rfl, rfl, rfl, hb⟩ := hrel
      have HB := hide hb
      clear hb b1 b2
      obtain ⟨t0, t1⟩ := termS_all u0 u1 k (by omega)
      have HS0 := hide hs0
      clear hs0
      by_cases hlt : k < 30
      · obtain ⟨x0, x1⟩ := termS_all u0 u1 (k + 1) (by omega)
        obtain ⟨m0, m1⟩ := mulS_in k hlt
        have CM := refmuldiv_to (termS u k) u (2 * ((k : Int) + 1) * (2 * ((k : Int) + 1) + 1) * 1099511627776) (termS u (k + 1)) rfl (by omega) (by omega) (by omega) (by omega) (by omega) (by omega)
        have hs : sumS u (k + 1) = if k % 2 = 0 then sumS u k - termS u (k + 1) else sumS u k + termS u (k + 1) := rfl
        have HS := hide hs
        clear hs
        by_cases hp : k % 2 = 0
        · have tst : (((k : Int) + 1) % 2 == 1) = true := beq_iff_eq.2 (by omega)
          have HP := hide hp
          clear hp
          go_wp2_with (go_at_call 127; (with_reducible refine (CM _).mono ?_); rintro e w3 ⟨rfl, b3⟩)
          go_roundw
          case rel => exact ⟨k + 1, A, M + termS u (k + 1), by omega, by rw [HS.out, if_pos HP.out, ← HS0.out]; omega, by omega, by omega, by omega, by omega, rfl, rfl, rfl, by go_num, bt HB.out b3⟩
          case measure => simp [intOf]; omega
        · have tst : (((k : Int) + 1) % 2 == 1) = false := beq_eq_false_iff_ne.2 (by omega)
          have HP := hide hp
          clear hp
          go_wp2_with (go_at_call 127; (with_reducible refine (CM _).mono ?_); rintro e w3 ⟨rfl, b3⟩)
          go_roundw
          case rel => exact ⟨k + 1, A + termS u (k + 1), M, by omega, by rw [HS.out, if_neg HP.out, ← HS0.out]; omega, by omega, by omega, by omega, by omega, rfl, rfl, rfl, by go_num, bt HB.out b3⟩
          case measure => simp [intOf]; omega
      · obtain rfl : k = 30 := by omega
        go_wp2
        go_ret
        exact ⟨by rw [← HS0.out]; rfl, HB.out⟩
theorem refseries_any (p q : Int) (q0 : 0 < q) (q1 : q ≤ 3145728) (h0 : -(4 * q) ≤ p) (h1 : p ≤ 4 * q) (w : World) :
    Calls Tryz.prog 191 #[.int .i64 p, .int .i64 q] w fun e w' => e = .returned (.int .i64 (seriesF p q)) ∧ Below w.heap.size w w' := by
  obtain ⟨a0, a1⟩ := abs_small h0 h1
  obtain ⟨v0, v1, u0, u1⟩ := uF_in q0 a0 a1
  exact refseries_at p q _ _ _ rfl rfl rfl q0 q1 a0 a1 v0 v1 u0 u1 w
theorem may_any (p q : Int) (w : World) (_h0 : -9223372036854775808 ≤ p) (_h1 : p ≤ 9223372036854775807) :
    Calls Tryz.prog 178 #[.int .i64 p, .int .i64 q] w fun e w' => e = .returned (.bool (mayF p q)) ∧ Below w.heap.size w w' := by
  unfold mayF
  by_cases g1 : 1 ≤ q
  · by_cases g2 : q ≤ 1048576
    · by_cases g3 : -4 * q ≤ p
      · have e1 : decide (1 ≤ q) = true := decide_eq_true g1
        have e2 : decide (q ≤ 1048576) = true := decide_eq_true g2
        have e3 : decide (-4 * q ≤ p) = true := decide_eq_true g3
        rw [e1, e2, e3]
        go_enter Tryz.func178, Tryz.ntmps178
        go_wp2
        go_ret
        exact ⟨rfl, Below.refl _ _⟩
      · have e1 : decide (1 ≤ q) = true := decide_eq_true g1
        have e2 : decide (q ≤ 1048576) = true := decide_eq_true g2
        have e3 : decide (-4 * q ≤ p) = false := decide_eq_false g3
        rw [e1, e2, e3]
        go_enter Tryz.func178, Tryz.ntmps178
        go_wp2
        go_ret
        exact ⟨rfl, Below.refl _ _⟩
    · have e1 : decide (1 ≤ q) = true := decide_eq_true g1
      have e2 : decide (q ≤ 1048576) = false := decide_eq_false g2
      rw [e1, e2]
      go_enter Tryz.func178, Tryz.ntmps178
      go_wp2
      go_ret
      exact ⟨rfl, Below.refl _ _⟩
  · have e1 : decide (1 ≤ q) = false := decide_eq_false g1
    rw [e1]
    go_enter Tryz.func178, Tryz.ntmps178
    go_wp2
    go_ret
    exact ⟨rfl, Below.refl _ _⟩
theorem refmay_any (p q : Int) (w : World) (_h0 : -9223372036854775808 ≤ p) (_h1 : p ≤ 9223372036854775807) :
    Calls Tryz.prog 189 #[.int .i64 p, .int .i64 q] w fun e w' => e = .returned (.bool (mayF p q)) ∧ Below w.heap.size w w' := by
  unfold mayF
  by_cases g1 : q < 1
  · rw [show decide (1 ≤ q) = false from decide_eq_false (by omega)]
    go_enter Tryz.func189, Tryz.ntmps189
    go_wp2
    go_ret
    exact ⟨rfl, Below.refl _ _⟩
  by_cases g2 : 1048576 < q
  · rw [show decide (q ≤ 1048576) = false from decide_eq_false (by omega), Bool.and_false]
    go_enter Tryz.func189, Tryz.ntmps189
    go_wp2
    go_ret
    exact ⟨rfl, Below.refl _ _⟩
  rw [show decide (1 ≤ q) = true from decide_eq_true (by omega), show decide (q ≤ 1048576) = true from decide_eq_true (by omega)]
  by_cases g3 : p ≤ 4 * q
  · have e1 : decide (p ≤ 4 * q) = true := decide_eq_true g3
    rw [e1]
    go_enter Tryz.func189, Tryz.ntmps189
    go_wp2
    go_ret
    exact ⟨rfl, Below.refl _ _⟩
  · have e1 : decide (p ≤ 4 * q) = false := decide_eq_false g3
    rw [e1]
    go_enter Tryz.func189, Tryz.ntmps189
    go_wp2
    go_ret
    exact ⟨rfl, Below.refl _ _⟩
set_option maxHeartbeats 1000000 in
theorem lanczos_any (p q : Int) (h0 : -9223372036854775808 ≤ p) (h1 : p ≤ 9223372036854775807) (w : World) :
    Calls Tryz.prog 157 #[.int .i64 p, .int .i64 q] w fun e w' => e = .returned (.int .i64 (lanczosF p q)) ∧ Below w.heap.size w w' := by
  have CM := fun w => may_any p q w h0 h1
  rcases mayF_at p q with ⟨g, a1, a2, a3, a4⟩ | ⟨g, _⟩
  · rw [g] at CM
    by_cases g1 : p ≤ -3 * q
    · rw [show lanczosF p q = 0 from if_neg (by omega)]
      clear g
      go_enter Tryz.func157, Tryz.ntmps157
      go_wp2_with (go_at_call 178; (with_reducible refine (CM _).mono ?_); rintro e w1 ⟨rfl, b1⟩)
      go_ret
      exact ⟨rfl, b1⟩
    by_cases g2 : 3 * q ≤ p
    · rw [show lanczosF p q = 0 from if_neg (by omega)]
      clear g
      go_enter Tryz.func157, Tryz.ntmps157
      go_wp2_with (go_at_call 178; (with_reducible refine (CM _).mono ?_); rintro e w1 ⟨rfl, b1⟩)
      go_ret
      exact ⟨rfl, b1⟩
    rw [show lanczosF p q = shiftF (mulShiftF (seriesF p q) (seriesF p (3 * q)) 40) 10 from if_pos ⟨g, by omega, by omega⟩]
    clear g
    have CS := sseries_any p q (by omega) (by omega) (by omega) (by omega)
    have CT := sseries_any p (3 * q) (by omega) (by omega) (by omega) (by omega)
    obtain ⟨s0, s1⟩ := seriesF_in (p := p) (q := q) (by omega) (by omega) (by omega)
    obtain ⟨t0, t1⟩ := seriesF_in (p := p) (q := 3 * q) (by omega) (by omega) (by omega)
    have CX := mulshift_to (seriesF p q) (seriesF p (3 * q)) 40 _ rfl (by omega) (by omega) (by omega) (by omega)
    obtain ⟨x0, x1⟩ := mulShiftF_in (seriesF p q) (seriesF p (3 * q)) 40
    have CH := fixshift_any (mulShiftF (seriesF p q) (seriesF p (3 * q)) 40) 10 x0 x1 (by omega) (by omega)
    generalize shiftF (mulShiftF (seriesF p q) (seriesF p (3 * q)) 40) 10 = z at *
    generalize mulShiftF (seriesF p q) (seriesF p (3 * q)) 40 = y at *
    generalize seriesF p (3 * q) = t at *
    generalize seriesF p q = s at *
    go_enter Tryz.func157, Tryz.ntmps157
    go_wp2_with (first
      | (go_at_call 178; (with_reducible refine (CM _).mono ?_); rintro e w1 ⟨rfl, b1⟩)
      | (go_at_call 180; (with_reducible refine (CS _).mono ?_); rintro e w2 ⟨rfl, b2⟩)
      | (go_at_call 180; (with_reducible refine (CT _).mono ?_); rintro e w3 ⟨rfl, b3⟩)
      | (go_at_call 179; (with_reducible refine (CX _).mono ?_); rintro e w4 ⟨rfl, b4⟩)
      | (go_at_call 60; (with_reducible refine (CH _).mono ?_); rintro e w5 ⟨rfl, b5⟩))
    go_ret
    exact ⟨rfl, bt (bt (bt (bt b1 b2) b3) b4) b5⟩
  · rw [show lanczosF p q = 0 from if_neg (by rw [g]; simp)]
    rw [g] at CM
    clear g
    go_enter Tryz.func157, Tryz.ntmps157
    go_wp2_with (go_at_call 178; (with_reducible refine (CM _).mono ?_); rintro e w1 ⟨rfl, b1⟩)
    go_ret
    exact ⟨rfl, b1⟩
set_option maxHeartbeats 1000000 in
theorem reflanczos_any (p q : Int) (h0 : -9223372036854775808 ≤ p) (h1 : p ≤ 9223372036854775807) (w : World) :
    Calls Tryz.prog 175 #[.int .i64 p, .int .i64 q] w fun e w' => e = .returned (.int .i64 (lanczosF p q)) ∧ Below w.heap.size w w' := by
  have CM := fun w => refmay_any p q w h0 h1
  rcases mayF_at p q with ⟨g, a1, a2, a3, a4⟩ | ⟨g, _⟩
  · rw [g] at CM
    by_cases g1 : p ≤ -3 * q
    · rw [show lanczosF p q = 0 from if_neg (by omega)]
      clear g
      go_enter Tryz.func175, Tryz.ntmps175
      go_wp2_with (go_at_call 189; (with_reducible refine (CM _).mono ?_); rintro e w1 ⟨rfl, b1⟩)
      go_ret
      exact ⟨rfl, b1⟩
    by_cases g2 : 3 * q ≤ p
    · rw [show lanczosF p q = 0 from if_neg (by omega)]
      clear g
      go_enter Tryz.func175, Tryz.ntmps175
      go_wp2_with (go_at_call 189; (with_reducible refine (CM _).mono ?_); rintro e w1 ⟨rfl, b1⟩)
      go_ret
      exact ⟨rfl, b1⟩
    rw [show lanczosF p q = shiftF (mulShiftF (seriesF p q) (seriesF p (3 * q)) 40) 10 from if_pos ⟨g, by omega, by omega⟩]
    clear g
    have CS := refseries_any p q (by omega) (by omega) (by omega) (by omega)
    have CT := refseries_any p (3 * q) (by omega) (by omega) (by omega) (by omega)
    obtain ⟨s0, s1⟩ := seriesF_in (p := p) (q := q) (by omega) (by omega) (by omega)
    obtain ⟨t0, t1⟩ := seriesF_in (p := p) (q := 3 * q) (by omega) (by omega) (by omega)
    have CX := refmulshift_to (seriesF p q) (seriesF p (3 * q)) 40 _ rfl (by omega) (by omega) (by omega) (by omega)
    obtain ⟨x0, x1⟩ := mulShiftF_in (seriesF p q) (seriesF p (3 * q)) 40
    have CH := refshift_any (mulShiftF (seriesF p q) (seriesF p (3 * q)) 40) 10 x0 x1
    generalize shiftF (mulShiftF (seriesF p q) (seriesF p (3 * q)) 40) 10 = z at *
    generalize mulShiftF (seriesF p q) (seriesF p (3 * q)) 40 = y at *
    generalize seriesF p (3 * q) = t at *
    generalize seriesF p q = s at *
    go_enter Tryz.func175, Tryz.ntmps175
    go_wp2_with (first
      | (go_at_call 189; (with_reducible refine (CM _).mono ?_); rintro e w1 ⟨rfl, b1⟩)
      | (go_at_call 191; (with_reducible refine (CS _).mono ?_); rintro e w2 ⟨rfl, b2⟩)
      | (go_at_call 191; (with_reducible refine (CT _).mono ?_); rintro e w3 ⟨rfl, b3⟩)
      | (go_at_call 190; (with_reducible refine (CX _).mono ?_); rintro e w4 ⟨rfl, b4⟩)
      | (go_at_call 61; (with_reducible refine (CH _).mono ?_); rintro e w5 ⟨rfl, b5⟩))
    go_ret
    exact ⟨rfl, bt (bt (bt (bt b1 b2) b3) b4) b5⟩
  · rw [show lanczosF p q = 0 from if_neg (by rw [g]; simp)]
    rw [g] at CM
    clear g
    go_enter Tryz.func175, Tryz.ntmps175
    go_wp2_with (go_at_call 189; (with_reducible refine (CM _).mono ?_); rintro e w1 ⟨rfl, b1⟩)
    go_ret
    exact ⟨rfl, b1⟩
end Go.Proofs.YtaafhjngnjjcmaaGreatDoor

/- What each source sample weighs: Keys' cubic, in integers and by float64. -/
namespace Go.Proofs.YtaafhjngnjjcmaaGreatDoor
open Go.RowKit Ieee

/-- Keys' cubic, as a raw weight. -/
def lowK (p q : Int) : Int := 3 * (p * p * p) - 5 * (p * p) * q + 2 * (q * q * q)
def highK (p q : Int) : Int := 5 * (p * p) * q - p * p * p - 8 * p * (q * q) + 4 * (q * q * q)
def keysF (p q : Int) : Int := if 1 ≤ q ∧ q ≤ 262144 ∧ p < 2 * q ∧ -2 * q < p then (if absI p < q then divF (lowK (absI p) q * 1073741824) (2 * (q * q * q)) else divF (highK (absI p) q * 1073741824) (2 * (q * q * q))) else 0
theorem keysF_neg (p q : Int) : keysF (-p) q = keysF p q := by
  have e : (1 ≤ q ∧ q ≤ 262144 ∧ -p < 2 * q ∧ -2 * q < -p) ↔ (1 ≤ q ∧ q ≤ 262144 ∧ p < 2 * q ∧ -2 * q < p) := by omega
  unfold keysF
  rw [abs_minus]
  simp only [e]
theorem cubes {q : Int} (q0 : 1 ≤ q) (q1 : q ≤ 262144) : 1 ≤ q * q ∧ q * q ≤ 68719476736 ∧ 1 ≤ q * q * q ∧ q * q * q ≤ 18014398509481984 := by
  have a : 1 * 1 ≤ q * q := Int.mul_le_mul q0 q0 (by omega) (by omega)
  have b : q * q ≤ 262144 * 262144 := Int.mul_le_mul q1 q1 (by omega) (by omega)
  have c : 1 * 1 ≤ q * q * q := Int.mul_le_mul a q0 (by omega) (by omega)
  have d : q * q * q ≤ 262144 * 262144 * 262144 := Int.mul_le_mul b q1 (by omega) (by omega)
  omega
end Go.Proofs.YtaafhjngnjjcmaaGreatDoor

/- Keys' cubic by float64, and the document's call. -/
namespace Go.Proofs.YtaafhjngnjjcmaaGreatDoor
open Go.RowKit Ieee

theorem keys_bounds {P q : Int} (q0 : 1 ≤ q) (q1 : q ≤ 262144) (P0 : 0 ≤ P) (P1 : P ≤ 2 * q) :
    0 ≤ P * P ∧ P * P ≤ 274877906944 ∧ 0 ≤ P * P * P ∧ P * P * P ≤ 144115188075855872 ∧ 0 ≤ 5 * (P * P) * q ∧ 5 * (P * P) * q ≤ 360287970189639680 ∧ 0 ≤ 8 * P * (q * q) ∧ 8 * P * (q * q) ≤ 288230376151711744 := by
  obtain ⟨s0, s1, c0, c1⟩ := cubes q0 q1
  have P2 : P ≤ 524288 := by omega
  have a0 : 0 ≤ P * P := Int.mul_nonneg P0 P0
  have a1 : P * P ≤ 524288 * 524288 := Int.mul_le_mul P2 P2 P0 (by omega)
  have b0 : 0 ≤ P * P * P := Int.mul_nonneg a0 P0
  have b1 : P * P * P ≤ 524288 * 524288 * 524288 := Int.mul_le_mul a1 P2 P0 (by omega)
  have d0 : 0 ≤ 5 * (P * P) * q := Int.mul_nonneg (by omega) (by omega)
  have d1 : 5 * (P * P) * q ≤ 5 * (524288 * 524288) * 262144 := Int.mul_le_mul (by omega) q1 (by omega) (by omega)
  have g0 : 0 ≤ 8 * P * (q * q) := Int.mul_nonneg (by omega) (by omega)
  have g1 : 8 * P * (q * q) ≤ 8 * 524288 * 68719476736 := Int.mul_le_mul (by omega) s1 (by omega) (by omega)
  omega
set_option maxRecDepth 100000 in
set_option maxHeartbeats 1000000 in
theorem refkeys_at (p q P : Int) (hP : absI p = P) (h0 : -9223372036854775808 < p) (h1 : p ≤ 9223372036854775807) (q0 : 1 ≤ q) (q1 : q ≤ 262144) (g0 : p < 2 * q) (g1 : -2 * q < p) (w : World) :
    Calls Tryz.prog 174 #[.int .i64 p, .int .i64 q] w fun e w' => e = .returned (.int .i64 (if P < q then divF (lowK P q * 1073741824) (2 * (q * q * q)) else divF (highK P q * 1073741824) (2 * (q * q * q)))) ∧ Below w.heap.size w w' := by
  have P0 : 0 ≤ P := by rw [← hP]; exact absI0 p
  have P1 : P ≤ 2 * q := by rw [← hP]; unfold absI; split <;> omega
  obtain ⟨a0, a1, b0, b1, d0, d1, e0, e1⟩ := keys_bounds q0 q1 P0 P1
  obtain ⟨s0, s1, c0, c1⟩ := cubes q0 q1
  have hp : (decide (p < 0) = true ∧ -p = P) ∨ (decide (p < 0) = false ∧ p = P) := by
    unfold absI at hP
    by_cases h : p < 0
    · rw [if_pos h] at hP; exact Or.inl ⟨decide_eq_true h, hP⟩
    · rw [if_neg h] at hP; exact Or.inr ⟨decide_eq_false h, hP⟩
  clear hP
  by_cases g : P < q
  · rw [if_pos g]
    have C := refmuldiv_to (lowK P q) 1073741824 (2 * (q * q * q)) _ rfl (by unfold lowK; omega) (by unfold lowK; omega) (by omega) (by omega) (by omega) (by omega)
    generalize divF (lowK P q * 1073741824) (2 * (q * q * q)) = z at *
    unfold lowK at C
    have gd : decide (P < q) = true := decide_eq_true g
    rcases hp with ⟨hp, hP⟩ | ⟨hp, hP⟩
    · go_enter Tryz.func174, Tryz.ntmps174
      go_wp2_with (go_at_call 127; (with_reducible refine (C _).mono ?_); rintro e w1 ⟨rfl, b1⟩)
      go_ret
      exact ⟨rfl, b1⟩
    · subst hP
      go_enter Tryz.func174, Tryz.ntmps174
      go_wp2_with (go_at_call 127; (with_reducible refine (C _).mono ?_); rintro e w1 ⟨rfl, b1⟩)
      go_ret
      exact ⟨rfl, b1⟩
  · rw [if_neg g]
    have C := refmuldiv_to (highK P q) 1073741824 (2 * (q * q * q)) _ rfl (by unfold highK; omega) (by unfold highK; omega) (by omega) (by omega) (by omega) (by omega)
    generalize divF (highK P q * 1073741824) (2 * (q * q * q)) = z at *
    unfold highK at C
    have gd : decide (P < q) = false := decide_eq_false g
    rcases hp with ⟨hp, hP⟩ | ⟨hp, hP⟩
    · go_enter Tryz.func174, Tryz.ntmps174
      go_wp2_with (go_at_call 127; (with_reducible refine (C _).mono ?_); rintro e w1 ⟨rfl, b1⟩)
      go_ret
      exact ⟨rfl, b1⟩
    · subst hP
      go_enter Tryz.func174, Tryz.ntmps174
      go_wp2_with (go_at_call 127; (with_reducible refine (C _).mono ?_); rintro e w1 ⟨rfl, b1⟩)
      go_ret
      exact ⟨rfl, b1⟩
theorem refkeys_any (p q : Int) (h0 : -9223372036854775808 ≤ p) (h1 : p ≤ 9223372036854775807) (w : World) :
    Calls Tryz.prog 174 #[.int .i64 p, .int .i64 q] w fun e w' => e = .returned (.int .i64 (keysF p q)) ∧ Below w.heap.size w w' := by
  by_cases g : 1 ≤ q ∧ q ≤ 262144 ∧ p < 2 * q ∧ -2 * q < p
  · rw [show keysF p q = if absI p < q then divF (lowK (absI p) q * 1073741824) (2 * (q * q * q)) else divF (highK (absI p) q * 1073741824) (2 * (q * q * q)) from if_pos g]
    obtain ⟨q0, q1, g0, g1⟩ := g
    exact refkeys_at p q _ rfl (by omega) h1 q0 q1 g0 g1 w
  · rw [show keysF p q = 0 from if_neg g]
    by_cases g1 : q < 1
    · clear g
      go_enter Tryz.func174, Tryz.ntmps174
      go_wp2
      go_ret
      exact ⟨rfl, Below.refl _ _⟩
    by_cases g2 : 262144 < q
    · clear g
      go_enter Tryz.func174, Tryz.ntmps174
      go_wp2
      go_ret
      exact ⟨rfl, Below.refl _ _⟩
    by_cases g3 : 2 * q ≤ p
    · clear g
      go_enter Tryz.func174, Tryz.ntmps174
      go_wp2
      go_ret
      exact ⟨rfl, Below.refl _ _⟩
    have g4 : p ≤ -2 * q := by omega
    clear g
    go_enter Tryz.func174, Tryz.ntmps174
    go_wp2
    go_ret
    exact ⟨rfl, Below.refl _ _⟩
end Go.Proofs.YtaafhjngnjjcmaaGreatDoor
