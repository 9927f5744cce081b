/- Parts, joined. -/
import Derived.Test.YtaafhjngnjjcmaaGreatDoorJ06
import Derived.Test.YtaafhjngnjjcmaaGreatDoorJ05
import Derived.Test.YtaafhjngnjjcmaaGreatDoorJ07
import Derived.Lib.BitFns
import Derived.Shelf.Small.Bits
import Derived.Deep.DeepCutAuto
import Derived.Deep.CutBlock
/- The document's answers for long numbers (layer 2): going round, signs, bits of a number. -/
namespace Go.Proofs.YtaafhjngnjjcmaaGreatDoor
open Go.RowKit

theorem times_to (a b P : Int) (hP : a * b = P) (a0 : 0 ≤ a) (a1 : a < 18446744073709551616) (b0 : 0 ≤ b) (b1 : b < 18446744073709551616) (w : World) :
    Calls Tryz.prog 150 #[.int .u64 a, .int .u64 b] w fun e w' => e = .returned (.agg #[.int .u64 (hi P), .int .u64 (lo P)]) ∧ Below w.heap.size w w' := by
  subst hP
  exact times_any a b a0 a1 b0 b1 w
end Go.Proofs.YtaafhjngnjjcmaaGreatDoor

/- Plain arithmetic for this seat: one digit of a long quotient. No program text in sight. -/
namespace Go.Proofs.YtaafhjngnjjcmaaGreatDoor


/-- What a digit's search stands on: the divisor's two halves, what is left so far, the next half. -/
structure DigC (a c U v : Int) : Prop where
  a0 : 2147483648 ≤ a
  a1 : a < 4294967296
  c0 : 0 ≤ c
  c1 : c < 4294967296
  u0 : 0 ≤ U
  u1 : U < a * 4294967296 + c
  v0 : 0 ≤ v
  v1 : v < 4294967296
/-- The digit itself. -/
def digQ (a c U v : Int) : Int := (U * 4294967296 + v) / (a * 4294967296 + c)
def digR (a c U v : Int) : Int := (U * 4294967296 + v) % (a * 4294967296 + c)
theorem dig_eq (a c U v : Int) : (a * 4294967296 + c) * digQ a c U v + digR a c U v = U * 4294967296 + v := Int.mul_ediv_add_emod _ _
theorem dig_in {a c U v : Int} (C : DigC a c U v) : 0 ≤ digQ a c U v ∧ digQ a c U v < 4294967296 ∧ 0 ≤ digR a c U v ∧ digR a c U v < a * 4294967296 + c := by
  obtain ⟨a0, a1, c0, c1, u0, u1, v0, v1⟩ := C
  refine ⟨Int.ediv_nonneg (by omega) (by omega), Int.ediv_lt_of_lt_mul (by omega) (by omega), Int.emod_nonneg _ (by omega), Int.emod_lt_of_pos _ (by omega)⟩
/-- A guess of the digit, and what it leaves. -/
structure Dig (a c U v q r : Int) : Prop where
  e : q * a + r = U
  r0 : 0 ≤ r
  lo : digQ a c U v ≤ q
  hi : q ≤ 4294967297
theorem Dig.first {a c U v : Int} (C : DigC a c U v) : Dig a c U v (U / a) (U % a) ∧ U % a < 4294967296 := by
  obtain ⟨a0, a1, c0, c1, u0, u1, v0, v1⟩ := C
  have ap : 0 < a := by omega
  have e := Int.mul_ediv_add_emod U a
  have r := rest_in (x := U) ap
  refine ⟨⟨by rw [Int.mul_comm]; exact e, r.1, ?_, ?_⟩, by omega⟩
  · have q0 : 0 ≤ U / a := Int.ediv_nonneg u0 (by omega)
    have p0 := Int.mul_nonneg q0 c0
    have h1 : digQ a c U v < U / a + 1 := Int.ediv_lt_of_lt_mul (by omega) (by
      have h2 : (U / a + 1) * (a * 4294967296 + c) = (a * (U / a)) * 4294967296 + (U / a) * c + (a * 4294967296 + c) := by
        rw [Int.add_mul, Int.one_mul, Int.mul_add, ← Int.mul_assoc, Int.mul_comm (U / a) a]
      rw [h2]
      omega)
    omega
  · have : U / a < 4294967298 := Int.ediv_lt_of_lt_mul ap (by omega)
    omega
/-- How a guess times the divisor stands to what is divided. -/
theorem Dig.times {a c U v q r : Int} (h : Dig a c U v q r) : (a * 4294967296 + c) * q = (U - r) * 4294967296 + q * c := by
  have e := h.e
  have e2 : (a * 4294967296 + c) * q = q * a * 4294967296 + q * c := by
    rw [Int.add_mul, Int.mul_comm c q, Int.mul_right_comm, Int.mul_comm a q]
  rw [e2]
  have : q * a = U - r := by omega
  rw [this]
theorem Dig.above {a c U v q r : Int} (C : DigC a c U v) (h : Dig a c U v q r) (hc : 4294967296 * r + v < q * c) : digQ a c U v < q := by
  have t := h.times
  have := C.a0; have := C.c0
  exact Int.ediv_lt_of_lt_mul (by omega) (by rw [Int.mul_comm q, t]; omega)
theorem Dig.below {a c U v q r : Int} (C : DigC a c U v) (h : Dig a c U v q r) (hc : q * c ≤ 4294967296 * r + v) : digQ a c U v = q := by
  have t := h.times
  have := C.a0; have := C.c0
  have h2 : q ≤ digQ a c U v := Int.le_ediv_of_mul_le (by omega) (by rw [Int.mul_comm, t]; omega)
  have := h.lo
  omega
theorem Dig.next {a c U v q r : Int} (C : DigC a c U v) (h : Dig a c U v q r) (hq : digQ a c U v < q) : Dig a c U v (q - 1) (r + a) := by
  have := C.a0
  have e := h.e
  have r0 := h.r0
  have hi := h.hi
  refine ⟨?_, by omega, by omega, by omega⟩
  rw [Int.sub_mul, Int.one_mul]
  omega
theorem Dig.stop {a c U v q r : Int} (C : DigC a c U v) (h : Dig a c U v q r) (hq : digQ a c U v < q) (hr : 4294967296 ≤ r + a) : digQ a c U v = q - 1 := by
  refine (h.next C hq).below C ?_
  have hi := h.hi
  have := C.c0; have := C.c1; have := C.v0
  have d := (dig_in C).1
  have m := Int.mul_le_mul (show q - 1 ≤ 4294967296 by omega) (show c ≤ 4294967295 by omega) (by omega) (by omega)
  omega
theorem Dig.prod {a c U v q r : Int} (C : DigC a c U v) (h : Dig a c U v q r) (hq : q < 4294967296) : 0 ≤ q * c ∧ q * c ≤ 18446744065119617025 := by
  have lo := h.lo
  have := C.c0; have := C.c1
  have d := (dig_in C).1
  refine ⟨Int.mul_nonneg (by omega) (by omega), ?_⟩
  have m := Int.mul_le_mul (show q ≤ 4294967295 by omega) (show c ≤ 4294967295 by omega) (by omega) (by omega)
  omega
end Go.Proofs.YtaafhjngnjjcmaaGreatDoor

/- Plain arithmetic for this seat: the parts of a long quotient by two digits. No program text in sight. -/
namespace Go.Proofs.YtaafhjngnjjcmaaGreatDoor


theorem bitLen_in : ∀ (n x : Nat), x ≤ n → x ≠ 0 → x < 2 ^ 64 → ∃ k : Nat, Lib.bitLen x = k + 1 ∧ 2 ^ k ≤ x ∧ x < 2 ^ (k + 1) := by
  intro n
  induction n with
  | zero => intro x h h0 _; omega
  | succ n ih =>
    intro x h h0 h1
    have e := Lib.bitLen_half x h0 h1
    by_cases hx : x = 1
    · subst hx
      exact ⟨0, by rw [e]; decide, by decide, by decide⟩
    · obtain ⟨k, ek, k0, k1⟩ := ih (x / 2) (by omega) (by omega) (by omega)
      exact ⟨k + 1, by omega, by rw [Nat.pow_succ]; omega, by rw [Nat.pow_succ]; omega⟩
theorem norm_any (d : Int) (d0 : 0 < d) (d1 : d ≤ 18446744073709551615) : ∃ s : Nat, 64 - (Lib.bitLen d.toNat : Int) = s ∧ s ≤ 63 ∧ 9223372036854775808 ≤ d * 2 ^ s ∧ d * 2 ^ s < 18446744073709551616 := by
  obtain ⟨x, rfl⟩ := Int.eq_ofNat_of_zero_le (Int.le_of_lt d0)
  obtain ⟨k, ek, k0, k1⟩ := bitLen_in x x (Nat.le_refl _) (by omega) (by omega)
  have hk : k < 64 := by
    by_cases h : k < 64
    · exact h
    · have : 2 ^ 64 ≤ 2 ^ k := Nat.pow_le_pow_right (by decide) (by omega)
      omega
  have ex : ((x : Int)).toNat = x := by omega
  refine ⟨63 - k, by rw [ex, ek]; omega, by omega, ?_, ?_⟩
  · have h : 2 ^ k * 2 ^ (63 - k) ≤ x * 2 ^ (63 - k) := Nat.mul_le_mul_right _ k0
    rw [← Nat.pow_add, show k + (63 - k) = 63 by omega] at h
    have : ((2 ^ 63 : Nat) : Int) ≤ ((x * 2 ^ (63 - k) : Nat) : Int) := by exact_mod_cast h
    simpa using this
  · have h : x * 2 ^ (63 - k) < 2 ^ (k + 1) * 2 ^ (63 - k) := Nat.mul_lt_mul_of_pos_right k1 (Nat.pow_pos (by decide))
    rw [← Nat.pow_add, show k + 1 + (63 - k) = 64 by omega] at h
    have : ((x * 2 ^ (63 - k) : Nat) : Int) < ((2 ^ 64 : Nat) : Int) := by exact_mod_cast h
    simpa using this
theorem mask32 {x : Int} (h0 : 0 ≤ x) (h1 : x < 18446744073709551616) : bits .and .u64 x 4294967295 = x % 4294967296 := by
  obtain ⟨a, rfl⟩ := Int.eq_ofNat_of_zero_le h0
  have h := bits_and_u64_nat a 4294967295 (by omega) (by omega)
  have e : a &&& 4294967295 = a % 4294967296 := Nat.and_two_pow_sub_one_eq_mod a 32
  rw [e] at h
  exact h.trans (by omega)
structure Parts (h l d : Int) (s : Nat) (Y a c U t v v0 : Int) : Prop where
  eY : IntKind.u64.wrap (d * 2 ^ s) = Y
  ea : Y / 4294967296 = a
  ec : bits .and .u64 Y 4294967295 = c
  eU : bits .or .u64 (IntKind.u64.wrap (h * 2 ^ s)) (l / 2 ^ (64 - s)) = U
  et : IntKind.u64.wrap (l * 2 ^ s) = t
  ev : t / 4294967296 = v
  ev0 : bits .and .u64 t 4294967295 = v0
  C : DigC a c U v
  ys : Y = a * 4294967296 + c
  y1 : Y < 18446744073709551616
  u1 : U < 18446744073709551616
  t0 : 0 ≤ t
  w0 : 0 ≤ v0
  w1 : v0 < 4294967296
  fin : ∀ q1 q0 R1 R0 : Int, Y * q1 + R1 = U * 4294967296 + v → Y * q0 + R0 = R1 * 4294967296 + v0 → 0 ≤ R0 → R0 < Y →
    q1 * 4294967296 + q0 = (h * 18446744073709551616 + l) / d ∧ R0 / 2 ^ s = (h * 18446744073709551616 + l) % d
theorem parts_any {h l d : Int} {s : Nat} (h0 : 0 ≤ h) (hd : h < d) (l0 : 0 ≤ l) (l1 : l < 18446744073709551616) (s1 : s ≤ 63) (n0 : 9223372036854775808 ≤ d * 2 ^ s) (n1 : d * 2 ^ s < 18446744073709551616) :
    ∃ Y a c U t v v0 : Int, Parts h l d s Y a c U t v v0 := by
  have p := pow2_pos s
  have pq := pow2_pos (64 - s)
  have e64 := pow_split (n := s) (by omega)
  have hm : (h + 1) * 2 ^ s ≤ d * 2 ^ s := Int.mul_le_mul_of_nonneg_right (by omega) (Int.le_of_lt p)
  rw [Int.add_mul, Int.one_mul] at hm
  have h2 := Int.mul_nonneg h0 (Int.le_of_lt p)
  have b0 : 0 ≤ l / 2 ^ (64 - s) := Int.ediv_nonneg l0 (Int.le_of_lt pq)
  have b1 : l / 2 ^ (64 - s) < 2 ^ s := Int.ediv_lt_of_lt_mul pq (by rw [← e64]; exact l1)
  have b2 : l / 2 ^ (64 - s) < 18446744073709551616 := Int.lt_of_le_of_lt (Int.ediv_le_self _ l0) l1
  have eU := or_apart h (l / 2 ^ (64 - s)) s h0 (by omega) b0 b1 b2
  have wh : IntKind.u64.wrap (h * 2 ^ s) = h * 2 ^ s := by rw [IntKind.wrap_u64]; omega
  have wd : IntKind.u64.wrap (d * 2 ^ s) = d * 2 ^ s := by rw [IntKind.wrap_u64]; omega
  -- what is left of l
  have el : l * 2 ^ s = 18446744073709551616 * (l / 2 ^ (64 - s)) + (l % 2 ^ (64 - s)) * 2 ^ s := by
    have e := Int.mul_ediv_add_emod l (2 ^ (64 - s))
    conv => lhs; rw [← e]
    rw [Int.add_mul, e64, Int.mul_right_comm, Int.mul_comm (2 ^ (64 - s)) (2 ^ s)]
  have m := rest_in (x := l) pq
  have m1 : (l % 2 ^ (64 - s) + 1) * 2 ^ s ≤ 18446744073709551616 := by
    rw [e64, Int.mul_comm (2 ^ s)]; exact Int.mul_le_mul_of_nonneg_right (by omega) (Int.le_of_lt p)
  rw [Int.add_mul, Int.one_mul] at m1
  have m0 := Int.mul_nonneg m.1 (Int.le_of_lt p)
  have wt : IntKind.u64.wrap (l * 2 ^ s) = (l % 2 ^ (64 - s)) * 2 ^ s := by
    rw [IntKind.wrap_u64]; exact mod_of el m0 (by omega)
  refine ⟨_, _, _, h * 2 ^ s + l / 2 ^ (64 - s), _, _, _, ⟨wd, rfl, mask32 (by omega) n1, by rw [wh]; exact eU, wt, rfl, mask32 m0 (by omega), ⟨by omega, by omega, by omega, by omega, by omega, by omega, by omega, by omega⟩, by omega, n1, by omega, m0, by omega, by omega, ?_⟩⟩
  intro q1 q0 R1 R0 e1 e2 r0 r1
  have total : (h * 18446744073709551616 + l) * 2 ^ s = (d * 2 ^ s) * (q1 * 4294967296 + q0) + R0 := by
    have x1 : (h * 18446744073709551616 + l) * 2 ^ s = h * 2 ^ s * 18446744073709551616 + l * 2 ^ s := by
      rw [Int.add_mul, Int.mul_right_comm]
    have x2 : (d * 2 ^ s) * (q1 * 4294967296 + q0) = (d * 2 ^ s) * q1 * 4294967296 + (d * 2 ^ s) * q0 := by
      rw [Int.mul_add, Int.mul_assoc (d * 2 ^ s) q1]
    rw [x1, x2, el]
    generalize l % 2 ^ (64 - s) * 2 ^ s = t at *
    generalize (d * 2 ^ s) * q1 = Yq1 at *
    generalize (d * 2 ^ s) * q0 = Yq0 at *
    omega
  have tq : (h * 18446744073709551616 + l) = d * (q1 * 4294967296 + q0) + R0 / 2 ^ s := by
    have k1 : R0 = 2 ^ s * ((h * 18446744073709551616 + l) - d * (q1 * 4294967296 + q0)) := by
      rw [Int.mul_sub, Int.mul_comm (2 ^ s), total, ← Int.mul_assoc, Int.mul_comm (2 ^ s) d]
      omega
    have k2 : R0 / 2 ^ s = (h * 18446744073709551616 + l) - d * (q1 * 4294967296 + q0) := by
      conv => lhs; rw [k1]
      exact Int.mul_ediv_cancel_left _ (Int.ne_of_gt p)
    omega
  have z0 : 0 ≤ R0 / 2 ^ s := Int.ediv_nonneg r0 (Int.le_of_lt p)
  have z1 : R0 / 2 ^ s < d := Int.ediv_lt_of_lt_mul p r1
  exact ⟨(div_of tq z0 z1).symm, (mod_of tq z0 z1).symm⟩
end Go.Proofs.YtaafhjngnjjcmaaGreatDoor

/- The library's long quotient (math/bits.Div64): exact, by two digits of 32 bits. -/
namespace Go.Proofs.YtaafhjngnjjcmaaGreatDoor
open Go.RowKit


/-! ### The library's count of leading zeros, by the shelf's contract, laid here -/
def lays134r : Go.Shelf.Ren := ⟨fun | 129 => 202 | 134 => 203 | n => n, fun | 3 => 3 | 4 => 4 | 5 => 5 | 9 => 9 | 46 => 139 | 53 => 103 | n => n, fun | n => n⟩
theorem lays134 : Go.Proofs.Lays.n134 Tryz.prog lays134r := {
  mixed := by kernel_rfl
  f129 := Tryz.func202.trans (congrArg some (by kernel_rfl))
  f134 := Tryz.func203.trans (congrArg some (by kernel_rfl))
  t3 := Tryz.underlying3
  a3 := Tryz.isAgg3
  z3 := Tryz.sizeOf3
  v3 := Tryz.zeroValue3
  t4 := Tryz.underlying4
  a4 := Tryz.isAgg4
  z4 := Tryz.sizeOf4
  v4 := Tryz.zeroValue4
  t5 := Tryz.underlying5
  a5 := Tryz.isAgg5
  z5 := Tryz.sizeOf5
  v5 := Tryz.zeroValue5
  t9 := Tryz.underlying9
  a9 := Tryz.isAgg9
  z9 := Tryz.sizeOf9
  v9 := Tryz.zeroValue9
  t46 := Tryz.underlying139
  a46 := Tryz.isAgg139
  z46 := Tryz.sizeOf139
  v46 := Tryz.zeroValue139
  t53 := Tryz.underlying103
  a53 := Tryz.isAgg103
  z53 := Tryz.sizeOf103
  v53 := Tryz.zeroValue103 }
theorem zeros_any (x : Int) (s : Nat) (hs : 64 - (Lib.bitLen x.toNat : Int) = s) (h0 : 0 ≤ x) (h1 : x ≤ 18446744073709551615) (w : World) :
    Calls Tryz.prog 203 #[.int .u64 x] w fun e w' => e = .returned (.int .i64 s) ∧ w = w' := by
  rw [← hs]
  exact (Any.bits_LeadingZeros64 lays134 x w h0 h1).mono fun _ _ ⟨he, hw⟩ => ⟨he, hw.symm⟩
set_option maxRecDepth 100000 in
set_option maxHeartbeats 4000000 in
theorem div64_full (h l d : Int) (h0 : 0 < h) (hd : h < d) (l0 : 0 ≤ l) (l1 : l < 18446744073709551616) (d1 : d ≤ 18446744073709551615) : Div64At h l d := by
  intro w
  have e1 : (d == 0) = false := beq_eq_false_iff_ne.2 (by omega)
  have e2 : decide (d ≤ h) = false := decide_eq_false (by omega)
  have e3 : (h == 0) = false := beq_eq_false_iff_ne.2 (by omega)
  obtain ⟨s, hs, s1, n0, n1⟩ := norm_any d (by omega) d1
  have CZ := zeros_any d s hs (by omega) (by omega)
  obtain ⟨Y, a, c, U, t, v, v0, eY, ea, ec, eU, et, ev, ev0, C, ys, y1, u1, t0, w0, w1, fin⟩ := parts_any (s := s) (Int.le_of_lt h0) hd l0 l1 s1 n0 n1
  have FIN := hide fin
  have CC := hide C
  have YS := hide ys
  obtain ⟨D0, DR⟩ := Dig.first C
  obtain ⟨a0, a1, c0, c1, u0, u2, x0, x1⟩ := C
  have ane : a ≠ 0 := by omega
  clear hs fin ys n0 n1 u2
  go_enter Tryz.func188, Tryz.ntmps188
  go_upto_region 16 with (go_at_call 203; (with_reducible refine (CZ _).mono ?_); rintro e w' ⟨rfl, rfl⟩)
  have er : U - U / a * a = U % a := by have := D0.e; omega
  have pa0 : 0 ≤ U / a * a := Int.mul_nonneg (Int.ediv_nonneg u0 (by omega)) (by omega)
  have pa1 : U / a * a ≤ U := by have := D0.r0; omega
  generalize U % a = r at *
  generalize U / a = q at *
  have D0 := hide D0
  go_upto_block 0 with fail
  clear eY ea ec eU et ev ev0 er pa0 pa1
  go_cut [15] (fun sq wx => sq = .int .u64 (digQ a c U v) ∧ w = wx)
  case first =>
    go_wp2_with fail
    go_loop [15, 16] (fun q r => ∃ q' r' : Int, q = .int .u64 q' ∧ r = .int .u64 r' ∧ Dig a c U v q' r' ∧ r' < 4294967296) (fun q _ => (intOf q).toNat)
    case atStart => exact ⟨q, r, rfl, rfl, D0.out, DR⟩
    case round =>
      obtain ⟨q', r', rfl, rfl, hD, hr⟩ := hrel
      have HD := hide hD
      have q0 : 0 ≤ q' := by have := (dig_in CC.out).1; have := hD.lo; omega
      have q1 := hD.hi
      have r0 := hD.r0
      have pr := hD.prod CC.out
      have gt1 : 4294967296 ≤ q' → digQ a c U v < q' := fun h => by have := (dig_in CC.out).2.1; omega
      have gt2 := hD.above CC.out
      have st := hD.stop CC.out
      have be := hD.below CC.out
      clear hD
      by_cases hA : 4294967296 ≤ q'
      · have GT := hide (gt1 hA)
        have p1 : 1 ≤ q' := by have := (dig_in CC.out).1; have := GT.out; omega
        by_cases hB : 4294967296 ≤ r' + a
        · have E := hide (st GT.out hB)
          clear gt1 gt2 st be pr
          go_wp2_with fail
          go_meet
          exact ⟨by rw [E.out], rfl⟩
        · clear gt1 gt2 st be pr
          go_wp2_with fail
          go_round
          case rel => exact ⟨q' - 1, r' + a, rfl, rfl, HD.out.next CC.out GT.out, by omega⟩
          case measure => simp [intOf]; have := (dig_in CC.out).1; have := GT.out; omega
      · obtain ⟨m0, m1⟩ := pr (by omega)
        by_cases hC : 4294967296 * r' + v < q' * c
        · have dC : decide (4294967296 * r' + v < q' * c) = true := decide_eq_true hC
          have GT := hide (gt2 hC)
          have p1 : 1 ≤ q' := by have := (dig_in CC.out).1; have := GT.out; omega
          by_cases hB : 4294967296 ≤ r' + a
          · have E := hide (st GT.out hB)
            clear gt1 gt2 st be pr
            go_wp2_with fail
            go_meet
            exact ⟨by rw [E.out], rfl⟩
          · clear gt1 gt2 st be pr
            go_wp2_with fail
            go_round
            case rel => exact ⟨q' - 1, r' + a, rfl, rfl, HD.out.next CC.out GT.out, by omega⟩
            case measure => simp [intOf]; have := (dig_in CC.out).1; have := GT.out; omega
        · have dC : decide (4294967296 * r' + v < q' * c) = false := decide_eq_false hC
          have E := hide (be (by omega))
          clear gt1 gt2 st be hC
          go_wp2_with fail
          go_meet
          exact ⟨by rw [E.out], rfl⟩
  case rest =>
    obtain ⟨rfl, rfl⟩ := hcut
    clear D0 DR
    have DI := dig_in CC.out
    have DE := dig_eq a c U v
    rw [← YS.out] at DI DE
    generalize digQ a c U v = q1 at *
    generalize digR a c U v = R1 at *
    obtain ⟨q1a, q1b, R1a, R1b⟩ := DI
    have e21 : IntKind.u64.wrap (IntKind.u64.wrap (IntKind.u64.wrap (U * 4294967296) + v) - IntKind.u64.wrap (q1 * Y)) = R1 := by
      rw [Int.mul_comm q1 Y]; simp only [IntKind.wrap_u64]; omega
    have DE1 := hide DE
    have C2 := hide (show DigC a c R1 v0 from ⟨a0, a1, c0, c1, R1a, by have := YS.out; omega, w0, w1⟩)
    obtain ⟨D2, DS⟩ := Dig.first C2.out
    have er : R1 - R1 / a * a = R1 % a := by have := D2.e; omega
    have pa0 : 0 ≤ R1 / a * a := Int.mul_nonneg (Int.ediv_nonneg R1a (by omega)) (by omega)
    have pa1 : R1 / a * a ≤ R1 := by have := D2.r0; omega
    have D2 := hide D2
    clear DE CC
    go_upto_block 2 with fail
    clear er pa0 pa1 e21
    generalize R1 % a = rr at *
    generalize R1 / a = qq at *
    go_cut [18] (fun sq wx => sq = .int .u64 (digQ a c R1 v0) ∧ w = wx)
    case first =>
      go_wp2_with fail
      go_loop [18, 16] (fun q r => ∃ q' r' : Int, q = .int .u64 q' ∧ r = .int .u64 r' ∧ Dig a c R1 v0 q' r' ∧ r' < 4294967296) (fun q _ => (intOf q).toNat)
      case atStart => exact ⟨qq, rr, rfl, rfl, D2.out, DS⟩
      case round =>
        obtain ⟨q', r', rfl, rfl, hD, hr⟩ := hrel
        have HD := hide hD
        have q0 : 0 ≤ q' := by have := (dig_in C2.out).1; have := hD.lo; omega
        have q1 := hD.hi
        have r0 := hD.r0
        have pr := hD.prod C2.out
        have gt1 : 4294967296 ≤ q' → digQ a c R1 v0 < q' := fun h => by have := (dig_in C2.out).2.1; omega
        have gt2 := hD.above C2.out
        have st := hD.stop C2.out
        have be := hD.below C2.out
        clear hD
        by_cases hA : 4294967296 ≤ q'
        · have GT := hide (gt1 hA)
          have p1 : 1 ≤ q' := by have := (dig_in C2.out).1; have := GT.out; omega
          by_cases hB : 4294967296 ≤ r' + a
          · have E := hide (st GT.out hB)
            clear gt1 gt2 st be pr
            go_wp2_with fail
            go_meet
            exact ⟨by rw [E.out], rfl⟩
          · clear gt1 gt2 st be pr
            go_wp2_with fail
            go_round
            case rel => exact ⟨q' - 1, r' + a, rfl, rfl, HD.out.next C2.out GT.out, by omega⟩
            case measure => simp [intOf]; have := (dig_in C2.out).1; have := GT.out; omega
        · obtain ⟨m0, m1⟩ := pr (by omega)
          by_cases hC : 4294967296 * r' + v0 < q' * c
          · have dC : decide (4294967296 * r' + v0 < q' * c) = true := decide_eq_true hC
            have GT := hide (gt2 hC)
            have p1 : 1 ≤ q' := by have := (dig_in C2.out).1; have := GT.out; omega
            by_cases hB : 4294967296 ≤ r' + a
            · have E := hide (st GT.out hB)
              clear gt1 gt2 st be pr
              go_wp2_with fail
              go_meet
              exact ⟨by rw [E.out], rfl⟩
            · clear gt1 gt2 st be pr
              go_wp2_with fail
              go_round
              case rel => exact ⟨q' - 1, r' + a, rfl, rfl, HD.out.next C2.out GT.out, by omega⟩
              case measure => simp [intOf]; have := (dig_in C2.out).1; have := GT.out; omega
          · have dC : decide (4294967296 * r' + v0 < q' * c) = false := decide_eq_false hC
            have E := hide (be (by omega))
            clear gt1 gt2 st be hC
            go_wp2_with fail
            go_meet
            exact ⟨by rw [E.out], rfl⟩
    case rest =>
      obtain ⟨rfl, rfl⟩ := hcut
      clear D2 DS
      have DJ := dig_in C2.out
      have DF := dig_eq a c R1 v0
      rw [← YS.out] at DJ DF
      generalize digQ a c R1 v0 = q2 at *
      generalize digR a c R1 v0 = R0 at *
      obtain ⟨q2a, q2b, R0a, R0b⟩ := DJ
      have e28 : IntKind.u64.wrap (IntKind.u64.wrap (IntKind.u64.wrap (R1 * 4294967296) + v0) - IntKind.u64.wrap (q2 * Y)) = R0 := by
        rw [Int.mul_comm q2 Y]; simp only [IntKind.wrap_u64]; omega
      obtain ⟨f1, f2⟩ := FIN.out q1 q2 R1 R0 DE1.out DF R0a R0b
      have F1 := hide f1
      have F2 := hide f2
      clear f1 f2 DF
      go_wp2
      go_ret2
      rw [F1.out, F2.out]
      exact ⟨rfl, Below.refl _ _⟩
end Go.Proofs.YtaafhjngnjjcmaaGreatDoor

/- The law on the signs of long products and quotients. -/
namespace Go.Proofs.YtaafhjngnjjcmaaGreatDoor
open Go.RowKit


/-- A product divided, for every divisor. -/
theorem muldiv_full (a b d : Int) (h0 : -9223372036854775808 ≤ a) (h1 : a ≤ 9223372036854775807) (k0 : -9223372036854775808 ≤ b) (k1 : b ≤ 9223372036854775807) (d0 : -9223372036854775808 ≤ d) (d1 : d ≤ 9223372036854775807) (w : World) :
    Calls Tryz.prog 139 #[.int .i64 a, .int .i64 b, .int .i64 d] w fun e w' => e = .returned (.int .i64 (divF (a * b) d)) ∧ Below w.heap.size w w' := by
  refine muldiv_any a b d h0 h1 k0 k1 d0 d1 (fun hz => ?_) w
  have hp : 0 < absI d := by unfold absI; split <;> omega
  have hq : absI d ≤ 9223372036854775808 := absI1 d0 (by omega)
  have r := rest_in (x := hi (absI (a * b))) hp
  by_cases h : hi (absI (a * b)) % absI d = 0
  · rw [h]
    exact div64_zero _ _ (lo0 _) (lo1 _) hp (by omega)
  · exact div64_full _ _ _ (by omega) r.2 (lo0 _) (lo1 _) (by omega)
theorem muldiv_to (a b d v : Int) (hv : divF (a * b) d = v) (h0 : -9223372036854775808 ≤ a) (h1 : a ≤ 9223372036854775807) (k0 : -9223372036854775808 ≤ b) (k1 : b ≤ 9223372036854775807) (d0 : -9223372036854775808 ≤ d) (d1 : d ≤ 9223372036854775807) (w : World) :
    Calls Tryz.prog 139 #[.int .i64 a, .int .i64 b, .int .i64 d] w fun e w' => e = .returned (.int .i64 v) ∧ Below w.heap.size w w' := by
  subst hv
  exact muldiv_full a b d h0 h1 k0 k1 d0 d1 w
end Go.Proofs.YtaafhjngnjjcmaaGreatDoor
