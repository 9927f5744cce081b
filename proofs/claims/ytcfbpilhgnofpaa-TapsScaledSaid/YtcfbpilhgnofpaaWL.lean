/- Plain arithmetic for this seat: the parts of a long quotient by two digits. No program text in sight. -/
import Derived.Test.YtcfbpilhgnofpaaWK
import Derived.Lib.BitFns
namespace Go.Proofs.Ytcfbpilhgnofpaa


theorem bitLen_in : ∀ (n x : Nat), x ≤ n → x ≠ 0 → x < 2 ^ 64 → ∃ k : Nat, Lib.bitLen x = k + 1 ∧ 2 ^ k ≤ x ∧ x < 2 ^ (k + 1) := by
  intro n
  induction n with
  | zero => intro x h h0 _; omega
  | succ n ih =>
    intro x h h0 h1
    have e := Lib.bitLen_half x h0 h1
    by_cases hx : x = 1
    · subst hx
      exact ⟨0, by rw [e]; decide, by decide, by decide⟩
    · obtain ⟨k, ek, k0, k1⟩ := ih (x / 2) (by omega) (by omega) (by omega)
      exact ⟨k + 1, by omega, by rw [Nat.pow_succ]; omega, by rw [Nat.pow_succ]; omega⟩
theorem norm_any (d : Int) (d0 : 0 < d) (d1 : d ≤ 18446744073709551615) : ∃ s : Nat, 64 - (Lib.bitLen d.toNat : Int) = s ∧ s ≤ 63 ∧ 9223372036854775808 ≤ d * 2 ^ s ∧ d * 2 ^ s < 18446744073709551616 := by
  obtain ⟨x, rfl⟩ := Int.eq_ofNat_of_zero_le (Int.le_of_lt d0)
  obtain ⟨k, ek, k0, k1⟩ := bitLen_in x x (Nat.le_refl _) (by omega) (by omega)
  have hk : k < 64 := by
    by_cases h : k < 64
    · exact h
    · have : 2 ^ 64 ≤ 2 ^ k := Nat.pow_le_pow_right (by decide) (by omega)
      omega
  have ex : ((x : Int)).toNat = x := by omega
  refine ⟨63 - k, by rw [ex, ek]; omega, by omega, ?_, ?_⟩
  · have h : 2 ^ k * 2 ^ (63 - k) ≤ x * 2 ^ (63 - k) := Nat.mul_le_mul_right _ k0
    rw [← Nat.pow_add, show k + (63 - k) = 63 by omega] at h
    have : ((2 ^ 63 : Nat) : Int) ≤ ((x * 2 ^ (63 - k) : Nat) : Int) := by exact_mod_cast h
    simpa using this
  · have h : x * 2 ^ (63 - k) < 2 ^ (k + 1) * 2 ^ (63 - k) := Nat.mul_lt_mul_of_pos_right k1 (Nat.pow_pos (by decide))
    rw [← Nat.pow_add, show k + 1 + (63 - k) = 64 by omega] at h
    have : ((x * 2 ^ (63 - k) : Nat) : Int) < ((2 ^ 64 : Nat) : Int) := by exact_mod_cast h
    simpa using this
theorem mask32 {x : Int} (h0 : 0 ≤ x) (h1 : x < 18446744073709551616) : bits .and .u64 x 4294967295 = x % 4294967296 := by
  obtain ⟨a, rfl⟩ := Int.eq_ofNat_of_zero_le h0
  have h := bits_and_u64_nat a 4294967295 (by omega) (by omega)
  have e : a &&& 4294967295 = a % 4294967296 := Nat.and_two_pow_sub_one_eq_mod a 32
  rw [e] at h
  exact h.trans (by omega)
structure Parts (h l d : Int) (s : Nat) (Y a c U t v v0 : Int) : Prop where
  eY : IntKind.u64.wrap (d * 2 ^ s) = Y
  ea : Y / 4294967296 = a
  ec : bits .and .u64 Y 4294967295 = c
  eU : bits .or .u64 (IntKind.u64.wrap (h * 2 ^ s)) (l / 2 ^ (64 - s)) = U
  et : IntKind.u64.wrap (l * 2 ^ s) = t
  ev : t / 4294967296 = v
  ev0 : bits .and .u64 t 4294967295 = v0
  C : DigC a c U v
  ys : Y = a * 4294967296 + c
  y1 : Y < 18446744073709551616
  u1 : U < 18446744073709551616
  t0 : 0 ≤ t
  w0 : 0 ≤ v0
  w1 : v0 < 4294967296
  fin : ∀ q1 q0 R1 R0 : Int, Y * q1 + R1 = U * 4294967296 + v → Y * q0 + R0 = R1 * 4294967296 + v0 → 0 ≤ R0 → R0 < Y →
    q1 * 4294967296 + q0 = (h * 18446744073709551616 + l) / d ∧ R0 / 2 ^ s = (h * 18446744073709551616 + l) % d
theorem parts_any {h l d : Int} {s : Nat} (h0 : 0 ≤ h) (hd : h < d) (l0 : 0 ≤ l) (l1 : l < 18446744073709551616) (s1 : s ≤ 63) (n0 : 9223372036854775808 ≤ d * 2 ^ s) (n1 : d * 2 ^ s < 18446744073709551616) :
    ∃ Y a c U t v v0 : Int, Parts h l d s Y a c U t v v0 := by
  have p := pow2_pos s
  have pq := pow2_pos (64 - s)
  have e64 := pow_split (n := s) (by omega)
  have hm : (h + 1) * 2 ^ s ≤ d * 2 ^ s := Int.mul_le_mul_of_nonneg_right (by omega) (Int.le_of_lt p)
  rw [Int.add_mul, Int.one_mul] at hm
  have h2 := Int.mul_nonneg h0 (Int.le_of_lt p)
  have b0 : 0 ≤ l / 2 ^ (64 - s) := Int.ediv_nonneg l0 (Int.le_of_lt pq)
  have b1 : l / 2 ^ (64 - s) < 2 ^ s := Int.ediv_lt_of_lt_mul pq (by rw [← e64]; exact l1)
  have b2 : l / 2 ^ (64 - s) < 18446744073709551616 := Int.lt_of_le_of_lt (Int.ediv_le_self _ l0) l1
  have eU := or_apart h (l / 2 ^ (64 - s)) s h0 (by omega) b0 b1 b2
  have wh : IntKind.u64.wrap (h * 2 ^ s) = h * 2 ^ s := by rw [IntKind.wrap_u64]; omega
  have wd : IntKind.u64.wrap (d * 2 ^ s) = d * 2 ^ s := by rw [IntKind.wrap_u64]; omega
  -- what is left of l
  have el : l * 2 ^ s = 18446744073709551616 * (l / 2 ^ (64 - s)) + (l % 2 ^ (64 - s)) * 2 ^ s := by
    have e := Int.mul_ediv_add_emod l (2 ^ (64 - s))
    conv => lhs; rw [← e]
    rw [Int.add_mul, e64, Int.mul_right_comm, Int.mul_comm (2 ^ (64 - s)) (2 ^ s)]
  have m := rest_in (x := l) pq
  have m1 : (l % 2 ^ (64 - s) + 1) * 2 ^ s ≤ 18446744073709551616 := by
    rw [e64, Int.mul_comm (2 ^ s)]; exact Int.mul_le_mul_of_nonneg_right (by omega) (Int.le_of_lt p)
  rw [Int.add_mul, Int.one_mul] at m1
  have m0 := Int.mul_nonneg m.1 (Int.le_of_lt p)
  have wt : IntKind.u64.wrap (l * 2 ^ s) = (l % 2 ^ (64 - s)) * 2 ^ s := by
    rw [IntKind.wrap_u64]; exact mod_of el m0 (by omega)
  refine ⟨_, _, _, h * 2 ^ s + l / 2 ^ (64 - s), _, _, _, ⟨wd, rfl, mask32 (by omega) n1, by rw [wh]; exact eU, wt, rfl, mask32 m0 (by omega), ⟨by omega, by omega, by omega, by omega, by omega, by omega, by omega, by omega⟩, by omega, n1, by omega, m0, by omega, by omega, ?_⟩⟩
  intro q1 q0 R1 R0 e1 e2 r0 r1
  have total : (h * 18446744073709551616 + l) * 2 ^ s = (d * 2 ^ s) * (q1 * 4294967296 + q0) + R0 := by
    have x1 : (h * 18446744073709551616 + l) * 2 ^ s = h * 2 ^ s * 18446744073709551616 + l * 2 ^ s := by
      rw [Int.add_mul, Int.mul_right_comm]
    have x2 : (d * 2 ^ s) * (q1 * 4294967296 + q0) = (d * 2 ^ s) * q1 * 4294967296 + (d * 2 ^ s) * q0 := by
      rw [Int.mul_add, Int.mul_assoc (d * 2 ^ s) q1]
    rw [x1, x2, el]
    generalize l % 2 ^ (64 - s) * 2 ^ s = t at *
    generalize (d * 2 ^ s) * q1 = Yq1 at *
    generalize (d * 2 ^ s) * q0 = Yq0 at *
    omega
  have tq : (h * 18446744073709551616 + l) = d * (q1 * 4294967296 + q0) + R0 / 2 ^ s := by
    have k1 : R0 = 2 ^ s * ((h * 18446744073709551616 + l) - d * (q1 * 4294967296 + q0)) := by
      rw [Int.mul_sub, Int.mul_comm (2 ^ s), total, ← Int.mul_assoc, Int.mul_comm (2 ^ s) d]
      omega
    have k2 : R0 / 2 ^ s = (h * 18446744073709551616 + l) - d * (q1 * 4294967296 + q0) := by
      conv => lhs; rw [k1]
      exact Int.mul_ediv_cancel_left _ (Int.ne_of_gt p)
    omega
  have z0 : 0 ≤ R0 / 2 ^ s := Int.ediv_nonneg r0 (Int.le_of_lt p)
  have z1 : R0 / 2 ^ s < d := Int.ediv_lt_of_lt_mul p r1
  exact ⟨(div_of tq z0 z1).symm, (mod_of tq z0 z1).symm⟩
end Go.Proofs.Ytcfbpilhgnofpaa
