/- The sine of package math: its walk. -/
import Derived.Test.YthakcpjlnopcfaaDoorFD
import Derived.Test.YthakcpjlnopcfaaDoorS04D
import Derived.WalkLawsBesides
namespace Go.Proofs.YthakcpjlnopcfaaDoor
open Go.RowKit Ieee


/-- What the two tables hold. -/
def Tables (w : World) : Prop :=
  (w.cell? ⟨1, 0, none⟩ = some (.float .f64 13666448263388469915) ∧ w.cell? ⟨1, 1, none⟩ = some (.float .f64 4477121864728985349) ∧ w.cell? ⟨1, 2, none⟩ = some (.float .f64 13732177093698800582) ∧ w.cell? ⟨1, 3, none⟩ = some (.float .f64 4537941361668146421) ∧ w.cell? ⟨1, 4, none⟩ = some (.float .f64 13787419979223748497) ∧ w.cell? ⟨1, 5, none⟩ = some (.float .f64 4586165620538955083)) ∧
  (w.cell? ⟨2, 0, none⟩ = some (.float .f64 4460209587652500685) ∧ w.cell? ⟨2, 1, none⟩ = some (.float .f64 13716528389658582877) ∧ w.cell? ⟨2, 2, none⟩ = some (.float .f64 4523617212962785441) ∧ w.cell? ⟨2, 3, none⟩ = some (.float .f64 13774824197404483331) ∧ w.cell? ⟨2, 4, none⟩ = some (.float .f64 4575957461383575504) ∧ w.cell? ⟨2, 5, none⟩ = some (.float .f64 13818544856648471880))
theorem mul_op {x y r : Nat} (h : double.mul x y = some r) : ∀ t w, (binOp .mul t (.float .f64 x) (.float .f64 y)).run Tryd.prog w = .ok (.float .f64 r) w := fun t w => run_float_arith w .mul t .f64 x y r h
theorem add_op {x y r : Nat} (h : double.add x y = some r) : ∀ t w, (binOp .add t (.float .f64 x) (.float .f64 y)).run Tryd.prog w = .ok (.float .f64 r) w := fun t w => run_float_arith w .add t .f64 x y r h
theorem sub_op {x y r : Nat} (h : double.sub x y = some r) : ∀ t w, (binOp .sub t (.float .f64 x) (.float .f64 y)).run Tryd.prog w = .ok (.float .f64 r) w := fun t w => run_float_arith w .sub t .f64 x y r h
theorem div_op {x y r : Nat} (h : double.div x y = some r) : ∀ t w, (binOp .quo t (.float .f64 x) (.float .f64 y)).run Tryd.prog w = .ok (.float .f64 r) w := fun t w => run_float_arith w .quo t .f64 x y r h
theorem toInt_op {x : Nat} {n : Int} (h : floatToIntVal .f64 x .u64 = some n) : ∀ w, (convert 25 30 (.float .f64 x)).run Tryd.prog w = .ok (.int .u64 n) w := fun w => run_convert_float_int w 25 30 .f64 .u64 x n (by rw [Tryd.underlying25]; rfl) Tryd.underlying30 h
theorem nan_walk (x : Nat) (h : (FloatKind.f64.format.order x x != some .eq) = false) (w : World) :
    Calls Tryd.prog 29 #[.float .f64 x] w fun e w' => e = .returned (.bool false) ∧ w = w' := by
  go_enter Tryd.func29, Tryd.ntmps29
  go_wp2
  go_ret
  exact ⟨rfl, rfl⟩
theorem bits_op (x : Nat) : ∀ w, (callFunc 14 #[.float .f64 x]).run Tryd.prog w = .ok (.value (.int .u64 x)) w := fun w => by
  rw [run_callFunc_extern (e := Extern.MathFloatBits.float64bits) Tryd.func14 (by kernel_rfl) (by kernel_rfl) (by kernel_rfl) (by rfl)]
  rfl
theorem frombits_op (n : Int) : ∀ w, (callFunc 13 #[.int .u64 n]).run Tryd.prog w = .ok (.value (.float .f64 n.toNat)) w := fun w => by
  rw [run_callFunc_extern (e := Extern.MathFloatBits.float64frombits) Tryd.func13 (by kernel_rfl) (by kernel_rfl) (by kernel_rfl) (by rfl)]
  rfl
theorem and_not63 (x : Nat) (_h : x < 18446744073709551616) : bits .andNot .u64 (x : Int) 9223372036854775808 = (x : Int) % 9223372036854775808 := by
  show IntKind.u64.wrap (((BitVec.ofInt 64 (x : Int) &&& ~~~ BitVec.ofInt 64 9223372036854775808).toNat : Nat) : Int) = _
  rw [BitVec.toNat_and, BitVec.toNat_ofInt]
  have e : (~~~ BitVec.ofInt 64 9223372036854775808).toNat = 2 ^ 63 - 1 := by decide
  have e2 : ((2 ^ 64 : Nat) : Int) = 18446744073709551616 := by decide
  rw [e, Nat.and_two_pow_sub_one_eq_mod, IntKind.wrap_u64, e2]
  omega
theorem abs_walk (x : Nat) (h : x < 18446744073709551616) (w : World) :
    Calls Tryd.prog 8 #[.float .f64 x] w fun e w' => e = .returned (.float .f64 (x % 9223372036854775808)) ∧ w = w' := by
  have h1 := bits_op x
  have h2 := frombits_op ((x : Int) % 9223372036854775808)
  rw [show ((x : Int) % 9223372036854775808).toNat = x % 9223372036854775808 by omega] at h2
  have h3 := and_not63 x h
  go_enter Tryd.func8, Tryd.ntmps8
  go_wp2
  go_ret
  exact ⟨rfl, rfl⟩
theorem inf_walk (x : Nat) (h : x < 18446744073709551616) (hg : (FloatKind.f64.format.order (x % 9223372036854775808) 9218868437227405311 == some .gt) = false) (w : World) :
    Calls Tryd.prog 30 #[.float .f64 x, .int .i64 0] w fun e w' => e = .returned (.bool false) ∧ w = w' := by
  go_enter Tryd.func30, Tryd.ntmps30
  go_wp2_with (go_at_call 8; (with_reducible refine (abs_walk x h _).mono ?_); rintro e w1 ⟨rfl, rfl⟩)
  go_ret
  exact ⟨rfl, rfl⟩
set_option synthInstance.maxSize 4000 in
set_option synthInstance.maxHeartbeats 400000 in
theorem sin_parts0 : ∀ n : Nat, n < 17 → (n + n % 2) / 2 % 2 = 0 → (n % 2 = 0 ∧ bits .and .u64 (n : Int) 1 = 0 ∧ bits .and .u64 (n : Int) 7 = 0 ∧ decide (2 ≤ (n + n % 2) / 2 % 4) = false) ∨ (n % 2 = 0 ∧ bits .and .u64 (n : Int) 1 = 0 ∧ bits .and .u64 (n : Int) 7 = 4 ∧ decide (2 ≤ (n + n % 2) / 2 % 4) = true) ∨
    (n % 2 = 1 ∧ bits .and .u64 (n : Int) 1 = 1 ∧ bits .and .u64 ((n : Int) + 1) 7 = 0 ∧ decide (2 ≤ (n + n % 2) / 2 % 4) = false) ∨ (n % 2 = 1 ∧ bits .and .u64 (n : Int) 1 = 1 ∧ bits .and .u64 ((n : Int) + 1) 7 = 4 ∧ decide (2 ≤ (n + n % 2) / 2 % 4) = true) := by decide +kernel
set_option synthInstance.maxSize 4000 in
set_option synthInstance.maxHeartbeats 400000 in
theorem sin_parts1 : ∀ n : Nat, n < 17 → (n + n % 2) / 2 % 2 = 1 → (n % 2 = 0 ∧ bits .and .u64 (n : Int) 1 = 0 ∧ bits .and .u64 (n : Int) 7 = 2 ∧ decide (2 ≤ (n + n % 2) / 2 % 4) = false) ∨ (n % 2 = 0 ∧ bits .and .u64 (n : Int) 1 = 0 ∧ bits .and .u64 (n : Int) 7 = 6 ∧ decide (2 ≤ (n + n % 2) / 2 % 4) = true) ∨
    (n % 2 = 1 ∧ bits .and .u64 (n : Int) 1 = 1 ∧ bits .and .u64 ((n : Int) + 1) 7 = 2 ∧ decide (2 ≤ (n + n % 2) / 2 % 4) = false) ∨ (n % 2 = 1 ∧ bits .and .u64 (n : Int) 1 = 1 ∧ bits .and .u64 ((n : Int) + 1) 7 = 6 ∧ decide (2 ≤ (n + n % 2) / 2 % 4) = true) := by decide +kernel
theorem neg_op (x : Nat) : ∀ w, (Op.unary .neg (.float .f64 x)).run Tryd.prog w = .ok (.float .f64 (Op.negFloat .f64 x)) w := fun _ => rfl
set_option maxHeartbeats 4000000 in
theorem sin_sin (y0 yp n yj t a1 b1 a2 b2 a3 z zz q m1 s1 m2 s2 m3 s3 m4 s4 m5 r p f : Nat) (s : Bool)
    (hx : y0 < 18446744073709551616)
    (c0 : (FloatKind.f64.format.order y0 0 == some .eq) = false) (c1 : (FloatKind.f64.format.order y0 y0 != some .eq) = false) (c2 : (FloatKind.f64.format.order (y0 % 9223372036854775808) 9218868437227405311 == some .gt) = false)
    (c3 : (FloatKind.f64.format.order y0 0 == some .lt) = s) (hs : yp = if s then Op.negFloat .f64 y0 else y0)
    (c4 : (FloatKind.f64.format.order yp 4737786807993761792 == some .gt) = false) (c5 : (FloatKind.f64.format.order yp 4737786807993761792 == some .eq) = false)
    (hn : floatToIntVal .f64 t .u64 = some (n : Int)) (n16 : n ≤ 16)
    (hyj : (n % 2 = 0 ∧ yj = floatOfInt .f64 (n : Int)) ∨ (n % 2 = 1 ∧ double.add (floatOfInt .f64 (n : Int)) 4607182418800017408 = some yj))
    (hJ : (n + n % 2) / 2 % 2 = 0)
    (g0 : double.mul yp 4608412980311869571 = some t) (g1 : double.mul yj 4605249456957292544 = some a1) (g2 : double.sub yp a1 = some b1) (g3 : double.mul yj 4495793288086814720 = some a2) (g4 : double.sub b1 a2 = some b2) (g5 : double.mul yj 4388835458085048688 = some a3) (g6 : double.sub b2 a3 = some z) (g7 : double.mul z z = some zz) (g8 : double.mul z zz = some q) (g9 : double.mul 4460209587652500685 zz = some m1) (g10 : double.add m1 13716528389658582877 = some s1) (g11 : double.mul s1 zz = some m2) (g12 : double.add m2 4523617212962785441 = some s2) (g13 : double.mul s2 zz = some m3) (g14 : double.add m3 13774824197404483331 = some s3) (g15 : double.mul s3 zz = some m4) (g16 : double.add m4 4575957461383575504 = some s4) (g17 : double.mul s4 zz = some m5) (g18 : double.add m5 13818544856648471880 = some r) (g19 : double.mul q r = some p) (g20 : double.add z p = some f)
    (w : World) (ht : Tables w) :
    Calls Tryd.prog 20 #[.float .f64 y0] w fun e w' => e = .returned (.float .f64 (if (s ^^ decide (2 ≤ (n + n % 2) / 2 % 4)) then Op.negFloat .f64 f else f)) ∧ w = w' := by
  obtain ⟨-, t0, t1, t2, t3, t4, t5⟩ := ht
  have hn' := toInt_op hn
  have ng := fun x => neg_op x
  have g0' := mul_op g0
  have g1' := mul_op g1
  have g2' := sub_op g2
  have g3' := mul_op g3
  have g4' := sub_op g4
  have g5' := mul_op g5
  have g6' := sub_op g6
  have g7' := mul_op g7
  have g8' := mul_op g8
  have g9' := mul_op g9
  have g10' := add_op g10
  have g11' := mul_op g11
  have g12' := add_op g12
  have g13' := mul_op g13
  have g14' := add_op g14
  have g15' := mul_op g15
  have g16' := add_op g16
  have g17' := mul_op g17
  have g18' := add_op g18
  have g19' := mul_op g19
  have g20' := add_op g20
  clear hn g0 g1 g2 g3 g4 g5 g6 g7 g8 g9 g10 g11 g12 g13 g14 g15 g16 g17 g18 g19 g20
  rcases sin_parts0 n (by omega) hJ with ⟨k0, k1, k2, k3⟩ | ⟨k0, k1, k2, k3⟩ | ⟨k0, k1, k2, k3⟩ | ⟨k0, k1, k2, k3⟩
  · rw [k3]
    obtain rfl : yj = floatOfInt .f64 (n : Int) := by rcases hyj with h | h <;> omega
    clear hyj
    cases s
    · replace hs : yp = y0 := hs
      subst hs
      go_enter Tryd.func20, Tryd.ntmps20
      go_wp2_with (first
        | (go_at_call 29; (with_reducible refine (nan_walk _ c1 _).mono ?_); rintro e w1 ⟨rfl, rfl⟩)
        | (go_at_call 30; (with_reducible refine (inf_walk _ hx c2 _).mono ?_); rintro e w1 ⟨rfl, rfl⟩))
      go_ret
      exact ⟨rfl, rfl⟩
    · replace hs : yp = Op.negFloat .f64 y0 := hs
      subst hs
      go_enter Tryd.func20, Tryd.ntmps20
      go_wp2_with (first
        | (go_at_call 29; (with_reducible refine (nan_walk _ c1 _).mono ?_); rintro e w1 ⟨rfl, rfl⟩)
        | (go_at_call 30; (with_reducible refine (inf_walk _ hx c2 _).mono ?_); rintro e w1 ⟨rfl, rfl⟩))
      go_ret
      exact ⟨rfl, rfl⟩
  · rw [k3]
    obtain rfl : yj = floatOfInt .f64 (n : Int) := by rcases hyj with h | h <;> omega
    clear hyj
    cases s
    · replace hs : yp = y0 := hs
      subst hs
      go_enter Tryd.func20, Tryd.ntmps20
      go_wp2_with (first
        | (go_at_call 29; (with_reducible refine (nan_walk _ c1 _).mono ?_); rintro e w1 ⟨rfl, rfl⟩)
        | (go_at_call 30; (with_reducible refine (inf_walk _ hx c2 _).mono ?_); rintro e w1 ⟨rfl, rfl⟩))
      go_ret
      exact ⟨rfl, rfl⟩
    · replace hs : yp = Op.negFloat .f64 y0 := hs
      subst hs
      go_enter Tryd.func20, Tryd.ntmps20
      go_wp2_with (first
        | (go_at_call 29; (with_reducible refine (nan_walk _ c1 _).mono ?_); rintro e w1 ⟨rfl, rfl⟩)
        | (go_at_call 30; (with_reducible refine (inf_walk _ hx c2 _).mono ?_); rintro e w1 ⟨rfl, rfl⟩))
      go_ret
      exact ⟨rfl, rfl⟩
  · rw [k3]
    have ha := add_op (show double.add (floatOfInt .f64 (n : Int)) 4607182418800017408 = some yj by rcases hyj with h | h <;> first | exact h.2 | omega)
    clear hyj
    cases s
    · replace hs : yp = y0 := hs
      subst hs
      go_enter Tryd.func20, Tryd.ntmps20
      go_wp2_with (first
        | (go_at_call 29; (with_reducible refine (nan_walk _ c1 _).mono ?_); rintro e w1 ⟨rfl, rfl⟩)
        | (go_at_call 30; (with_reducible refine (inf_walk _ hx c2 _).mono ?_); rintro e w1 ⟨rfl, rfl⟩))
      go_ret
      exact ⟨rfl, rfl⟩
    · replace hs : yp = Op.negFloat .f64 y0 := hs
      subst hs
      go_enter Tryd.func20, Tryd.ntmps20
      go_wp2_with (first
        | (go_at_call 29; (with_reducible refine (nan_walk _ c1 _).mono ?_); rintro e w1 ⟨rfl, rfl⟩)
        | (go_at_call 30; (with_reducible refine (inf_walk _ hx c2 _).mono ?_); rintro e w1 ⟨rfl, rfl⟩))
      go_ret
      exact ⟨rfl, rfl⟩
  · rw [k3]
    have ha := add_op (show double.add (floatOfInt .f64 (n : Int)) 4607182418800017408 = some yj by rcases hyj with h | h <;> first | exact h.2 | omega)
    clear hyj
    cases s
    · replace hs : yp = y0 := hs
      subst hs
      go_enter Tryd.func20, Tryd.ntmps20
      go_wp2_with (first
        | (go_at_call 29; (with_reducible refine (nan_walk _ c1 _).mono ?_); rintro e w1 ⟨rfl, rfl⟩)
        | (go_at_call 30; (with_reducible refine (inf_walk _ hx c2 _).mono ?_); rintro e w1 ⟨rfl, rfl⟩))
      go_ret
      exact ⟨rfl, rfl⟩
    · replace hs : yp = Op.negFloat .f64 y0 := hs
      subst hs
      go_enter Tryd.func20, Tryd.ntmps20
      go_wp2_with (first
        | (go_at_call 29; (with_reducible refine (nan_walk _ c1 _).mono ?_); rintro e w1 ⟨rfl, rfl⟩)
        | (go_at_call 30; (with_reducible refine (inf_walk _ hx c2 _).mono ?_); rintro e w1 ⟨rfl, rfl⟩))
      go_ret
      exact ⟨rfl, rfl⟩
set_option maxHeartbeats 4000000 in
theorem sin_cos (y0 yp n yj t a1 b1 a2 b2 a3 z zz h d q m1 s1 m2 s2 m3 s3 m4 s4 m5 r p f : Nat) (s : Bool)
    (hx : y0 < 18446744073709551616)
    (c0 : (FloatKind.f64.format.order y0 0 == some .eq) = false) (c1 : (FloatKind.f64.format.order y0 y0 != some .eq) = false) (c2 : (FloatKind.f64.format.order (y0 % 9223372036854775808) 9218868437227405311 == some .gt) = false)
    (c3 : (FloatKind.f64.format.order y0 0 == some .lt) = s) (hs : yp = if s then Op.negFloat .f64 y0 else y0)
    (c4 : (FloatKind.f64.format.order yp 4737786807993761792 == some .gt) = false) (c5 : (FloatKind.f64.format.order yp 4737786807993761792 == some .eq) = false)
    (hn : floatToIntVal .f64 t .u64 = some (n : Int)) (n16 : n ≤ 16)
    (hyj : (n % 2 = 0 ∧ yj = floatOfInt .f64 (n : Int)) ∨ (n % 2 = 1 ∧ double.add (floatOfInt .f64 (n : Int)) 4607182418800017408 = some yj))
    (hJ : (n + n % 2) / 2 % 2 = 1)
    (g0 : double.mul yp 4608412980311869571 = some t) (g1 : double.mul yj 4605249456957292544 = some a1) (g2 : double.sub yp a1 = some b1) (g3 : double.mul yj 4495793288086814720 = some a2) (g4 : double.sub b1 a2 = some b2) (g5 : double.mul yj 4388835458085048688 = some a3) (g6 : double.sub b2 a3 = some z) (g7 : double.mul z z = some zz) (g8 : double.mul 4602678819172646912 zz = some h) (g9 : double.sub 4607182418800017408 h = some d) (g10 : double.mul zz zz = some q) (g11 : double.mul 13666448263388469915 zz = some m1) (g12 : double.add m1 4477121864728985349 = some s1) (g13 : double.mul s1 zz = some m2) (g14 : double.add m2 13732177093698800582 = some s2) (g15 : double.mul s2 zz = some m3) (g16 : double.add m3 4537941361668146421 = some s3) (g17 : double.mul s3 zz = some m4) (g18 : double.add m4 13787419979223748497 = some s4) (g19 : double.mul s4 zz = some m5) (g20 : double.add m5 4586165620538955083 = some r) (g21 : double.mul q r = some p) (g22 : double.add d p = some f)
    (w : World) (ht : Tables w) :
    Calls Tryd.prog 20 #[.float .f64 y0] w fun e w' => e = .returned (.float .f64 (if (s ^^ decide (2 ≤ (n + n % 2) / 2 % 4)) then Op.negFloat .f64 f else f)) ∧ w = w' := by
  obtain ⟨⟨t0, t1, t2, t3, t4, t5⟩, -⟩ := ht
  have hn' := toInt_op hn
  have ng := fun x => neg_op x
  have g0' := mul_op g0
  have g1' := mul_op g1
  have g2' := sub_op g2
  have g3' := mul_op g3
  have g4' := sub_op g4
  have g5' := mul_op g5
  have g6' := sub_op g6
  have g7' := mul_op g7
  have g8' := mul_op g8
  have g9' := sub_op g9
  have g10' := mul_op g10
  have g11' := mul_op g11
  have g12' := add_op g12
  have g13' := mul_op g13
  have g14' := add_op g14
  have g15' := mul_op g15
  have g16' := add_op g16
  have g17' := mul_op g17
  have g18' := add_op g18
  have g19' := mul_op g19
  have g20' := add_op g20
  have g21' := mul_op g21
  have g22' := add_op g22
  clear hn g0 g1 g2 g3 g4 g5 g6 g7 g8 g9 g10 g11 g12 g13 g14 g15 g16 g17 g18 g19 g20 g21 g22
  rcases sin_parts1 n (by omega) hJ with ⟨k0, k1, k2, k3⟩ | ⟨k0, k1, k2, k3⟩ | ⟨k0, k1, k2, k3⟩ | ⟨k0, k1, k2, k3⟩
  · rw [k3]
    obtain rfl : yj = floatOfInt .f64 (n : Int) := by rcases hyj with h | h <;> omega
    clear hyj
    cases s
    · replace hs : yp = y0 := hs
      subst hs
      go_enter Tryd.func20, Tryd.ntmps20
      go_wp2_with (first
        | (go_at_call 29; (with_reducible refine (nan_walk _ c1 _).mono ?_); rintro e w1 ⟨rfl, rfl⟩)
        | (go_at_call 30; (with_reducible refine (inf_walk _ hx c2 _).mono ?_); rintro e w1 ⟨rfl, rfl⟩))
      go_ret
      exact ⟨rfl, rfl⟩
    · replace hs : yp = Op.negFloat .f64 y0 := hs
      subst hs
      go_enter Tryd.func20, Tryd.ntmps20
      go_wp2_with (first
        | (go_at_call 29; (with_reducible refine (nan_walk _ c1 _).mono ?_); rintro e w1 ⟨rfl, rfl⟩)
        | (go_at_call 30; (with_reducible refine (inf_walk _ hx c2 _).mono ?_); rintro e w1 ⟨rfl, rfl⟩))
      go_ret
      exact ⟨rfl, rfl⟩
  · rw [k3]
    obtain rfl : yj = floatOfInt .f64 (n : Int) := by rcases hyj with h | h <;> omega
    clear hyj
    cases s
    · replace hs : yp = y0 := hs
      subst hs
      go_enter Tryd.func20, Tryd.ntmps20
      go_wp2_with (first
        | (go_at_call 29; (with_reducible refine (nan_walk _ c1 _).mono ?_); rintro e w1 ⟨rfl, rfl⟩)
        | (go_at_call 30; (with_reducible refine (inf_walk _ hx c2 _).mono ?_); rintro e w1 ⟨rfl, rfl⟩))
      go_ret
      exact ⟨rfl, rfl⟩
    · replace hs : yp = Op.negFloat .f64 y0 := hs
      subst hs
      go_enter Tryd.func20, Tryd.ntmps20
      go_wp2_with (first
        | (go_at_call 29; (with_reducible refine (nan_walk _ c1 _).mono ?_); rintro e w1 ⟨rfl, rfl⟩)
        | (go_at_call 30; (with_reducible refine (inf_walk _ hx c2 _).mono ?_); rintro e w1 ⟨rfl, rfl⟩))
      go_ret
      exact ⟨rfl, rfl⟩
  · rw [k3]
    have ha := add_op (show double.add (floatOfInt .f64 (n : Int)) 4607182418800017408 = some yj by rcases hyj with h | h <;> first | exact h.2 | omega)
    clear hyj
    cases s
    · replace hs : yp = y0 := hs
      subst hs
      go_enter Tryd.func20, Tryd.ntmps20
      go_wp2_with (first
        | (go_at_call 29; (with_reducible refine (nan_walk _ c1 _).mono ?_); rintro e w1 ⟨rfl, rfl⟩)
        | (go_at_call 30; (with_reducible refine (inf_walk _ hx c2 _).mono ?_); rintro e w1 ⟨rfl, rfl⟩))
      go_ret
      exact ⟨rfl, rfl⟩
    · replace hs : yp = Op.negFloat .f64 y0 := hs
      subst hs
      go_enter Tryd.func20, Tryd.ntmps20
      go_wp2_with (first
        | (go_at_call 29; (with_reducible refine (nan_walk _ c1 _).mono ?_); rintro e w1 ⟨rfl, rfl⟩)
        | (go_at_call 30; (with_reducible refine (inf_walk _ hx c2 _).mono ?_); rintro e w1 ⟨rfl, rfl⟩))
      go_ret
      exact ⟨rfl, rfl⟩
  · rw [k3]
    have ha := add_op (show double.add (floatOfInt .f64 (n : Int)) 4607182418800017408 = some yj by rcases hyj with h | h <;> first | exact h.2 | omega)
    clear hyj
    cases s
    · replace hs : yp = y0 := hs
      subst hs
      go_enter Tryd.func20, Tryd.ntmps20
      go_wp2_with (first
        | (go_at_call 29; (with_reducible refine (nan_walk _ c1 _).mono ?_); rintro e w1 ⟨rfl, rfl⟩)
        | (go_at_call 30; (with_reducible refine (inf_walk _ hx c2 _).mono ?_); rintro e w1 ⟨rfl, rfl⟩))
      go_ret
      exact ⟨rfl, rfl⟩
    · replace hs : yp = Op.negFloat .f64 y0 := hs
      subst hs
      go_enter Tryd.func20, Tryd.ntmps20
      go_wp2_with (first
        | (go_at_call 29; (with_reducible refine (nan_walk _ c1 _).mono ?_); rintro e w1 ⟨rfl, rfl⟩)
        | (go_at_call 30; (with_reducible refine (inf_walk _ hx c2 _).mono ?_); rintro e w1 ⟨rfl, rfl⟩))
      go_ret
      exact ⟨rfl, rfl⟩
end Go.Proofs.YthakcpjlnopcfaaDoor
