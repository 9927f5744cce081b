/- The greatest number that divides both: the program's, the document's, and the law. -/
import Derived.Test.YtgkcbbnhhaobcaaG
namespace Go.Proofs.Ytgkcbbnhhaobcaa
open Go.RowKit

/-- Of two numbers without signs, as a number with a sign. -/
def gcdN (m n : Nat) : Int := (Nat.gcd m n : Int)

theorem fixgcd_loop (m n : Nat) : Nat.gcd n (m % n) = Nat.gcd m n := by rw [Nat.gcd_comm n, Nat.gcd_comm m]; exact (Nat.gcd_rec n m).symm
theorem absI_nat (a : Int) : absI a = (a.natAbs : Int) := by unfold absI; split <;> omega
theorem natAbs_le {a : Int} (h0 : -9223372036854775808 ≤ a) (h1 : a ≤ 9223372036854775807) : a.natAbs ≤ 9223372036854775808 := by omega

set_option maxHeartbeats 1000000 in
theorem fixgcd_any (a b : Int) (h0 : -9223372036854775808 ≤ a) (h1 : a ≤ 9223372036854775807) (k0 : -9223372036854775808 ≤ b) (k1 : b ≤ 9223372036854775807) (w : World) :
    Calls Try.prog 23 #[.int .i64 a, .int .i64 b] w fun e w' => e = .returned (.int .i64 (holdI (gcdN a.natAbs b.natAbs))) ∧ Below w.heap.size w w' := by
  have CA := fixsize_any a h0 h1
  have CB := fixsize_any b k0 k1
  rw [absI_nat] at CA CB
  have A1 := natAbs_le h0 h1
  have B1 := natAbs_le k0 k1
  generalize a.natAbs = A at *
  generalize b.natAbs = B at *
  go_enter Try.func23, Try.ntmps23
  go_wp2_with (first
    | (go_at_call 33; (with_reducible refine (CA _).mono ?_); rintro e w' ⟨rfl, rfl⟩)
    | (go_at_call 33; (with_reducible refine (CB _).mono ?_); rintro e w' ⟨rfl, rfl⟩))
  go_loopw [5, 6] (fun x y wr => ∃ m n : Nat, x = .int .u64 m ∧ y = .int .u64 n ∧ m ≤ 9223372036854775808 ∧ n ≤ 9223372036854775808 ∧ Hid (Nat.gcd m n = Nat.gcd A B) ∧ Below w.heap.size w wr) (fun _ y _ => (intOf y).toNat)
  case atStart => exact ⟨A, B, rfl, rfl, A1, B1, rfl, Below.refl _ _⟩
  case round =>
    obtain ⟨m, n, rfl, rfl, hm, hn, hg, hb⟩ := hrel
    have HB := hide hb
    clear hb CA CB
    by_cases hz : n = 0
    · have hc : ((n : Int) != 0) = false := by simp [hz]
      have hg' := hg.out
      rw [hz, Nat.gcd_zero_right] at hg'
      have HG := hide hg'
      clear hg' hz
      by_cases hbig : 9223372036854775807 < m
      · go_wp2
        go_ret
        exact ⟨ret_i64 (by unfold gcdN; rw [← HG.out, holdI_hi (by omega)]), HB.out⟩
      · go_wp2
        go_ret
        exact ⟨ret_i64 (by unfold gcdN; rw [← HG.out, holdI_in (by omega) (by omega)]), HB.out⟩
    · have hc : ((n : Int) != 0) = true := by simp [hz]
      have hlt : m % n < n := Nat.mod_lt _ (by omega)
      have e := fixgcd_loop m n
      have E := hide e
      clear e
      go_wp2
      go_quiet (fail)
      go_wp2
      go_roundw
      case rel => exact ⟨n, m % n, rfl, rfl, hn, by omega, E.out.trans hg.out, below_drewN HB.out _⟩
      case measure => simp [intOf]; omega

set_option maxHeartbeats 1000000 in
theorem refgcd_any (A B : Nat) (A1 : A ≤ 9223372036854775808) (B1 : B ≤ 9223372036854775808) (w : World) :
    Calls Try.prog 24 #[.int .u64 A, .int .u64 B] w fun e w' => e = .returned (.int .u64 (gcdN A B)) ∧ w = w' := by
  go_enter Try.func24, Try.ntmps24
  go_wp2
  go_loop [0, 1] (fun x y => ∃ m n : Nat, x = .int .u64 m ∧ y = .int .u64 n ∧ m ≤ 9223372036854775808 ∧ n ≤ 9223372036854775808 ∧ Hid (Nat.gcd m n = Nat.gcd A B)) (fun x y => (intOf x).toNat + (intOf y).toNat)
  case atStart => exact ⟨A, B, rfl, rfl, A1, B1, rfl⟩
  case round =>
    obtain ⟨m, n, rfl, rfl, hm, hn, hg⟩ := hrel
    by_cases hz : m = 0
    · have hg' := hg.out
      subst hz
      rw [Nat.gcd_zero_left] at hg'
      have HG := hide hg'
      clear hg'
      go_wp2
      go_ret
      exact ⟨ret_u64 (by unfold gcdN; rw [← HG.out]), rfl⟩
    have hz' : 0 < m := by omega
    by_cases hy : n = 0
    · have hg' := hg.out
      subst hy
      rw [Nat.gcd_zero_right] at hg'
      have HG := hide hg'
      clear hg' hz
      go_wp2
      go_ret
      exact ⟨ret_u64 (by unfold gcdN; rw [← HG.out]), rfl⟩
    have hy' : 0 < n := by omega
    by_cases hc : n ≤ m
    · have hlt : m % n < n := Nat.mod_lt _ hy'
      have E := hide ((Nat.gcd_comm (m % n) n).trans (fixgcd_loop m n))
      go_wp2
      go_round
      case rel => exact ⟨m % n, n, rfl, rfl, by omega, hn, E.out.trans hg.out⟩
      case measure => simp [intOf]; omega
    · have hlt : n % m < m := Nat.mod_lt _ hz'
      have E := hide ((fixgcd_loop n m).trans (Nat.gcd_comm n m))
      go_wp2
      go_round
      case rel => exact ⟨m, n % m, rfl, rfl, hm, by omega, E.out.trans hg.out⟩
      case measure => simp [intOf]; omega

theorem gcd_dvd {a : Int} {G : Int} (n : Nat) (hG : G = gcdN a.natAbs n) : a.tmod G = 0 := by
  subst hG
  unfold gcdN
  apply Int.tmod_eq_zero_of_dvd
  exact Int.ofNat_dvd_left.2 (Nat.gcd_dvd_left _ _)
theorem gcd_dvd' {b : Int} {G : Int} (n : Nat) (hG : G = gcdN n b.natAbs) : b.tmod G = 0 := by
  subst hG
  unfold gcdN
  apply Int.tmod_eq_zero_of_dvd
  exact Int.ofNat_dvd_left.2 (Nat.gcd_dvd_right _ _)
theorem gcdN_le {A B : Nat} (hA : A ≤ 9223372036854775808) (hB : B ≤ 9223372036854775808) : gcdN A B ≤ 9223372036854775808 := by
  unfold gcdN
  by_cases h : A = 0
  · subst h; rw [Nat.gcd_zero_left]; omega
  · have := Nat.gcd_le_left B (Nat.pos_of_ne_zero h); omega
theorem gcdN_pos {A B : Nat} (h : ¬ (A = 0 ∧ B = 0)) : 0 < gcdN A B := by
  unfold gcdN
  have : 0 < Nat.gcd A B := Nat.pos_of_ne_zero fun e => h (Nat.gcd_eq_zero_iff.1 e)
  omega
theorem hold_low (x h l : Int) (eh : h = hi x) (el : l = lo x) (h0 : 0 ≤ x) (h1 : x < 340282366920938463463374607431768211456) (w : World) :
    Calls Try.prog 19 #[.agg #[.int .u64 h, .int .u64 l], .bool false] w fun e w' => e = .returned (.int .i64 (holdI x)) ∧ Below w.heap.size w w' := by
  subst eh; subst el
  exact hold_false x h0 h1 w

set_option maxHeartbeats 1000000 in
theorem law_FixedGcds (a b : Int) (ha : -9223372036854775808 ≤ a ∧ a ≤ 9223372036854775807) (hb : -9223372036854775808 ≤ b ∧ b ≤ 9223372036854775807) (w : World) :
    Calls Try.prog 7 #[.int .i64 a, .int .i64 b] w fun e w' => e = .returned (.bool true) ∧ Below w.heap.size w w' := by
  obtain ⟨h0, h1⟩ := ha
  obtain ⟨k0, k1⟩ := hb
  have A1 := natAbs_le h0 h1
  have B1 := natAbs_le k0 k1
  have C1 := fixgcd_any a b h0 h1 k0 k1
  have C2 := fixgcd_any b a k0 k1 h0 h1
  have C3 := refgcd_any a.natAbs b.natAbs A1 B1
  have C4 := refsize_any a h0 h1
  have C5 := refsize_any b k0 k1
  rw [absI_nat] at C4 C5
  have sym : gcdN b.natAbs a.natAbs = gcdN a.natAbs b.natAbs := by unfold gcdN; rw [Nat.gcd_comm]
  rw [sym] at C2
  clear sym
  have le := gcdN_le A1 B1
  by_cases hz : a = 0 ∧ b = 0
  · obtain ⟨rfl, rfl⟩ := hz
    have e : gcdN (Int.natAbs 0) (Int.natAbs 0) = 0 := by decide
    have C3 : ∀ w : World, Calls Try.prog 24 #[.int .u64 0, .int .u64 0] w fun e w' => e = .returned (.int .u64 (gcdN (Int.natAbs 0) (Int.natAbs 0))) ∧ w = w' := C3
    have C4 : ∀ w : World, Calls Try.prog 17 #[.int .i64 0] w fun e w' => e = .returned (.int .u64 0) ∧ w = w' := C4
    rw [e] at C1 C2
    rw [e] at C3
    have C6 := hold_low 0 0 0 (by decide) (by decide) (by omega) (by omega)
    rw [show holdI 0 = 0 by decide] at C1 C2 C6
    clear e le
    go_enter Try.func7, Try.ntmps7
    go_wp2_with (first
      | (go_at_call 8; (with_reducible refine (lives _).mono ?_); rintro e w0 ⟨rfl, b0⟩)
      | (go_at_call 23; (with_reducible refine (C1 _).mono ?_); rintro e w1 ⟨rfl, b1⟩)
      | (go_at_call 17; (with_reducible refine (C4 _).mono ?_); rintro e w' ⟨rfl, rfl⟩)
      | (go_at_call 24; (with_reducible refine (C3 _).mono ?_); rintro e w' ⟨rfl, rfl⟩)
      | (go_at_call 19; (with_reducible refine (C6 _).mono ?_); rintro e w2 ⟨rfl, b2⟩))
    go_ret
    refine ⟨rfl, ?_⟩
    repeat (first | exact Below.refl _ _ | with_reducible refine ba ?_ _ | (with_reducible refine bt ?_ (by assumption)))
  have pos := gcdN_pos (A := a.natAbs) (B := b.natAbs) (by omega)
  have C6 := hold_low (gcdN a.natAbs b.natAbs) 0 (gcdN a.natAbs b.natAbs) (hiz _ (by omega) (by omega)) (loz _ (by omega) (by omega)) (by omega) (by omega)
  have D1 := fun G hG => gcd_dvd (a := a) (G := G) b.natAbs hG
  have D2 := fun G hG => gcd_dvd' (b := b) (G := G) a.natAbs hG
  generalize a.natAbs = A at *
  generalize b.natAbs = B at *
  generalize gcdN A B = G at *
  have E1 := D1 G rfl
  have E2 := D2 G rfl
  clear D1 D2
  have hza : (a == 0 && b == 0) = false := by
    by_cases ha : a = 0
    · have hb : b ≠ 0 := fun h => hz ⟨ha, h⟩
      simp [hb]
    · simp [ha]
  by_cases hbig : 4611686018427387904 < G
  · go_enter Try.func7, Try.ntmps7
    go_wp2_with (first
      | (go_at_call 8; (with_reducible refine (lives _).mono ?_); rintro e w0 ⟨rfl, b0⟩)
      | (go_at_call 23; (with_reducible refine (C1 _).mono ?_); rintro e w1 ⟨rfl, b1⟩)
      | (go_at_call 23; (with_reducible refine (C2 _).mono ?_); rintro e w3 ⟨rfl, b3⟩)
      | (go_at_call 17; (with_reducible refine (C4 _).mono ?_); rintro e w' ⟨rfl, rfl⟩)
      | (go_at_call 17; (with_reducible refine (C5 _).mono ?_); rintro e w' ⟨rfl, rfl⟩)
      | (go_at_call 24; (with_reducible refine (C3 _).mono ?_); rintro e w' ⟨rfl, rfl⟩)
      | (go_at_call 19; (with_reducible refine (C6 _).mono ?_); rintro e w2 ⟨rfl, b2⟩))
    all_goals go_ret
    all_goals refine ⟨rfl, ?_⟩
    all_goals repeat (first | exact Below.refl _ _ | with_reducible refine ba ?_ _ | (with_reducible refine bt ?_ (by assumption)))
  · rw [holdI_in (by omega) (by omega)] at C1 C2 C6
    go_enter Try.func7, Try.ntmps7
    go_wp2_with (first
      | (go_at_call 8; (with_reducible refine (lives _).mono ?_); rintro e w0 ⟨rfl, b0⟩)
      | (go_at_call 23; (with_reducible refine (C1 _).mono ?_); rintro e w1 ⟨rfl, b1⟩)
      | (go_at_call 23; (with_reducible refine (C2 _).mono ?_); rintro e w3 ⟨rfl, b3⟩)
      | (go_at_call 17; (with_reducible refine (C4 _).mono ?_); rintro e w' ⟨rfl, rfl⟩)
      | (go_at_call 17; (with_reducible refine (C5 _).mono ?_); rintro e w' ⟨rfl, rfl⟩)
      | (go_at_call 24; (with_reducible refine (C3 _).mono ?_); rintro e w' ⟨rfl, rfl⟩)
      | (go_at_call 19; (with_reducible refine (C6 _).mono ?_); rintro e w2 ⟨rfl, b2⟩))
    all_goals go_ret
    all_goals refine ⟨rfl, ?_⟩
    all_goals repeat (first | exact Below.refl _ _ | with_reducible refine ba ?_ _ | (with_reducible refine bt ?_ (by assumption)))
end Go.Proofs.Ytgkcbbnhhaobcaa
