/- Parts, joined. -/
import Derived.Test.YtaafhjngnjjcmaaGreatDoorJ06
import Derived.Test.YtaafhjngnjjcmaaGreatDoorJ04
/- Long numbers: products, divided and shifted down, rounded. -/
namespace Go.Proofs.YtaafhjngnjjcmaaGreatDoor
open Go.RowKit


/-- What a product by bits comes to. -/
def mulShiftF (a b n : Int) : Int := if 127 < n then 0 else if n ≤ 0 then holdI (a * b) else holdI (nearQ (a * b) (2 ^ n.toNat))
theorem mulShiftF_mid (a b : Int) (m : Nat) (h : m ≤ 126) : mulShiftF a b ((m : Int) + 1) = holdI ((a * b / 2 ^ m + 1) / 2) := by
  unfold mulShiftF
  rw [if_neg (by omega), if_neg (by omega), show ((m : Int) + 1).toNat = m + 1 by omega, near_pow]
theorem prod_in {a b : Int} (h0 : -9223372036854775808 ≤ a) (h1 : a ≤ 9223372036854775807) (k0 : -9223372036854775808 ≤ b) (k1 : b ≤ 9223372036854775807) : -85070591730234615865843651857942052864 ≤ a * b ∧ a * b ≤ 85070591730234615865843651857942052864 := by
  obtain ⟨m1, m2, m3, m4⟩ := mul_signs a b
  have p := abs_mul_le h0 h1 k0 k1
  by_cases ha : a < 0 <;> by_cases hb : b < 0
  · rw [m1 ha hb]; omega
  · rw [m2 ha (by omega)]; omega
  · rw [m3 (by omega) hb]; omega
  · rw [m4 (by omega) (by omega)]; omega
theorem div_pow_in {x : Int} (m : Nat) (h0 : -85070591730234615865843651857942052864 ≤ x) (h1 : x ≤ 85070591730234615865843651857942052864) : -85070591730234615865843651857942052864 ≤ x / 2 ^ m ∧ x / 2 ^ m ≤ 85070591730234615865843651857942052864 := by
  have p := pow2_pos m
  refine ⟨Int.le_ediv_of_mul_le p (Int.le_trans ?_ h0), ?_⟩
  · have : (85070591730234615865843651857942052864 : Int) * 1 ≤ 85070591730234615865843651857942052864 * 2 ^ m := Int.mul_le_mul_of_nonneg_left (by omega) (by decide)
    omega
  · have : x / 2 ^ m < 85070591730234615865843651857942052865 := Int.ediv_lt_of_lt_mul p (by
      have : (85070591730234615865843651857942052865 : Int) * 1 ≤ 85070591730234615865843651857942052865 * 2 ^ m := Int.mul_le_mul_of_nonneg_left (by omega) (by decide)
      omega)
    omega
set_option maxRecDepth 100000 in
set_option maxHeartbeats 1000000 in
theorem mulshift_any (a b n : Int) (h0 : -9223372036854775808 ≤ a) (h1 : a ≤ 9223372036854775807) (k0 : -9223372036854775808 ≤ b) (k1 : b ≤ 9223372036854775807) (w : World) :
    Calls Tryz.prog 179 #[.int .i64 a, .int .i64 b, .int .i64 n] w fun e w' => e = .returned (.int .i64 (mulShiftF a b n)) ∧ Below w.heap.size w w' := by
  by_cases hg : 127 < n
  · rw [show mulShiftF a b n = 0 from if_pos hg]
    go_enter Tryz.func179, Tryz.ntmps179
    go_wp2
    go_ret
    exact ⟨rfl, Below.refl _ _⟩
  have CP := product_any a b h0 h1 k0 k1
  obtain ⟨p0, p1⟩ := prod_in h0 h1 k0 k1
  by_cases hs : n ≤ 0
  · rw [show mulShiftF a b n = holdI (a * b) from (if_neg hg).trans (if_pos hs)]
    generalize a * b = X at *
    have CH := whold_any X
    clear p0 p1
    go_enter Tryz.func179, Tryz.ntmps179
    go_wp2_with (first
      | (go_at_call 166; (with_reducible refine (CP _).mono ?_); rintro e w1 ⟨rfl, b1⟩)
      | (go_at_call 172; (with_reducible refine (CH _).mono ?_); rintro e w2 ⟨rfl, b2⟩))
    go_ret
    refine ⟨rfl, ?_⟩
    repeat (first | exact Below.refl _ _ | with_reducible refine ba ?_ _ | with_reducible refine bs ?_ (by omega) _ | with_reducible refine bd ?_ | (with_reducible refine bt ?_ (by assumption)))
  obtain ⟨m, rfl⟩ : ∃ m : Nat, n = (m : Int) + 1 := ⟨n.toNat - 1, by omega⟩
  rw [mulShiftF_mid a b m (by omega)]
  generalize a * b = X at *
  obtain ⟨q0, q1⟩ := div_pow_in m p0 p1
  have C1 := down_any X m (by omega) (by omega) (by omega)
  have C2 := of_any 1 (by omega) (by omega)
  have C3 := sum_any (X / 2 ^ m) 1 (by omega) (by omega) (by omega) (by omega)
  rw [wrapL_in (by omega) (by omega)] at C3
  have C4 : ∀ w : World, Calls Tryz.prog 192 #[.agg #[.int .i64 (hi (X / 2 ^ m + 1)), .int .u64 (lo (X / 2 ^ m + 1))], .int .i64 1] w fun e w' => e = .returned (.agg #[.int .i64 (hi ((X / 2 ^ m + 1) / 2)), .int .u64 (lo ((X / 2 ^ m + 1) / 2))]) ∧ Below w.heap.size w w' :=
    down_any (X / 2 ^ m + 1) 1 (by omega) (by omega) (by omega)
  have C5 := whold_any ((X / 2 ^ m + 1) / 2)
  clear p0 p1 q0 q1
  generalize (X / 2 ^ m + 1) / 2 = V at *
  generalize X / 2 ^ m + 1 = U at *
  generalize X / 2 ^ m = T at *
  go_enter Tryz.func179, Tryz.ntmps179
  go_wp2_with (first
    | (go_at_call 166; (with_reducible refine (CP _).mono ?_); rintro e w1 ⟨rfl, b1⟩)
    | (go_at_call 192; (with_reducible refine (C1 _).mono ?_); rintro e w2 ⟨rfl, b2⟩)
    | (go_at_call 171; (with_reducible refine (C2 _).mono ?_); rintro e w3 ⟨rfl, b3⟩)
    | (go_at_call 170; (with_reducible refine (C3 _).mono ?_); rintro e w4 ⟨rfl, b4⟩)
    | (go_at_call 192; (with_reducible refine (C4 _).mono ?_); rintro e w5 ⟨rfl, b5⟩)
    | (go_at_call 172; (with_reducible refine (C5 _).mono ?_); rintro e w6 ⟨rfl, b6⟩))
  go_ret
  refine ⟨rfl, ?_⟩
  repeat (first | exact Below.refl _ _ | with_reducible refine ba ?_ _ | with_reducible refine bs ?_ (by omega) _ | with_reducible refine bd ?_ | (with_reducible refine bt ?_ (by assumption)))
/-- What a quotient of a product comes to. -/
theorem near_cases {X d : Int} (hd : d ≠ 0) : nearQ X d = if (X < 0 ↔ d < 0) then absI X / absI d + (if absI d ≤ 2 * (absI X % absI d) then 1 else 0) else -(absI X / absI d + (if absI d < 2 * (absI X % absI d) then 1 else 0)) := by
  unfold nearQ
  by_cases hx : X < 0 <;> by_cases hn : d < 0
  · rw [if_pos hn, if_pos (by omega), near_up (by omega), absI_neg hx, absI_neg hn]
  · rw [if_neg hn, if_neg (by omega), absI_neg hx, absI_pos (by omega)]
    have h := near_below (a := -X) (b := d) (by omega)
    rw [Int.neg_neg] at h
    exact h
  · rw [if_pos hn, if_neg (by omega), absI_pos (by omega), absI_neg hn]
    exact near_below (by omega)
  · rw [if_neg hn, if_pos (by omega), near_up (by omega), absI_pos (by omega), absI_pos (by omega)]
theorem divF_zero (a : Int) : divF a 0 = 0 := if_pos rfl
set_option maxRecDepth 100000 in
set_option maxHeartbeats 4000000 in
theorem muldiv_any (a b d : Int) (h0 : -9223372036854775808 ≤ a) (h1 : a ≤ 9223372036854775807) (k0 : -9223372036854775808 ≤ b) (k1 : b ≤ 9223372036854775807) (d0 : -9223372036854775808 ≤ d) (d1 : d ≤ 9223372036854775807)
    (CD : d ≠ 0 → Div64At (hi (absI (a * b)) % absI d) (lo (absI (a * b))) (absI d)) (w : World) :
    Calls Tryz.prog 139 #[.int .i64 a, .int .i64 b, .int .i64 d] w fun e w' => e = .returned (.int .i64 (divF (a * b) d)) ∧ Below w.heap.size w w' := by
  by_cases hz : d = 0
  · subst hz
    rw [divF_zero]
    go_enter Tryz.func139, Tryz.ntmps139
    go_wp2
    go_ret
    exact ⟨rfl, Below.refl _ _⟩
  have CD := CD hz
  rw [divF_of hz]
  have NC := near_cases (X := a * b) hz
  have CP := product_any a b h0 h1 k0 k1
  obtain ⟨p0, p1⟩ := prod_in h0 h1 k0 k1
  have CS := widesize_any d d0 d1
  have dz : (d == 0) = false := beq_eq_false_iff_ne.2 hz
  generalize a * b = X at *
  have DA : 0 < absI d := by unfold absI; split <;> omega
  have DB : absI d ≤ 9223372036854775808 := absI1 d0 (by omega)
  have PA := absI0 X
  have PB : absI X ≤ 85070591730234615865843651857942052864 := by unfold absI; split <;> omega
  have CN := negative_any X (by omega) (by omega)
  rw [wrapL_in (by omega) (by omega)] at CN
  have XN : X < 0 → -X = absI X := fun h => (absI_neg h).symm
  have XP : 0 ≤ X → X = absI X := fun h => (absI_pos h).symm
  have CQ := divide_any (absI X) (absI d) PA (by omega) DA (by omega) CD
  have CO := of_any 1 (by omega) (by omega)
  have QA := quo_le PA DA
  have RA := rest_in (x := absI X) DA
  clear CD
  generalize absI X / absI d = Q at *
  generalize absI X % absI d = R at *
  have CU := sum_any Q 1 (by omega) (by omega) (by omega) (by omega)
  rw [wrapL_in (by omega) (by omega)] at CU
  have CM := negative_any Q (by omega) (by omega)
  rw [wrapL_in (by omega) (by omega)] at CM
  have CV := negative_any (Q + 1) (by omega) (by omega)
  rw [wrapL_in (by omega) (by omega)] at CV
  generalize absI d = D at *
  obtain ⟨QA0, -⟩ := QA
  obtain ⟨RA0, RA1⟩ := RA
  by_cases hx : X < 0
  · have hx2 : hi X < 0 := by unfold hi; omega
    by_cases hd : d < 0
    · by_cases hu : D < 2 * R
      · have hX : hi X < 0 := by omega
        have dX : decide (hi X < 0) = true := decide_eq_true (by omega)
        have dd : decide (d < 0) = true := decide_eq_true (by omega)
        rw [if_pos (by omega), if_pos (by omega)] at NC
        have CH := whold_any (Q + 1)
        rw [NC]
        have EX := XN (by omega)
        rw [← EX] at CQ
        clear NC XN XP EX PA PB p0 p1 hX hz hx hd
        have hG : decide (D < 2 * R) = true := decide_eq_true (by omega)
        go_enter Tryz.func139, Tryz.ntmps139
        go_upto_region 9 with (first
          | (go_at_call 166; (with_reducible refine (CP _).mono ?_); rintro e w1 ⟨rfl, b1⟩;
              have z1 : w.heap.size ≤ w1.heap.size := b1.size)
          | (go_at_call 167; (with_reducible refine (CN _).mono ?_); rintro e w2 ⟨rfl, b2⟩;
              have n0 : w2.cell? ⟨w1.heap.size, 0, none⟩ = some (.int .i64 (hi X)) := cb b2 (by simp) (by simp);
              have n1 : w2.cell? ⟨w1.heap.size, 1, none⟩ = some (.int .u64 (lo X)) := cb b2 (by simp) (by simp);
              have n2 : w2.frozen? ⟨w1.heap.size, 0, none⟩ = false := fb b2 (by simp) (by simp);
              have n3 : w2.frozen? ⟨w1.heap.size, 1, none⟩ = false := fb b2 (by simp) (by simp);
              have n4 : w1.heap.size < w2.heap.size := (by have := b2.size; simp at this; omega))
          | (go_at_call 168; (with_reducible refine (CS _).mono ?_); rintro e w' ⟨rfl, rfl⟩)
          | (go_at_call 169; (with_reducible refine (CQ _).mono ?_); rintro e w3 ⟨rfl, b3⟩;
              have z3 : w.heap.size ≤ w3.heap.size := (by have := b3.size; simp [World.setCell] at this; omega)))
        have n5 := new0L w3 (.int .i64 (hi Q)) (.int .u64 (lo Q)) 197
        have n6 := new1L w3 (.int .i64 (hi Q)) (.int .u64 (lo Q)) 197
        have n7 := new_ltL w3 (.cells #[.int .i64 (hi Q), .int .u64 (lo Q)] 197)
        have f5 : (w3.alloc (.cells #[.int .i64 (hi Q), .int .u64 (lo Q)] 197)).frozen? ⟨w3.heap.size, 0, none⟩ = false := by simp
        have f6 : (w3.alloc (.cells #[.int .i64 (hi Q), .int .u64 (lo Q)] 197)).frozen? ⟨w3.heap.size, 1, none⟩ = false := by simp
        go_upto_region 10 with (fail)
        go_region_with (first
          | (go_at_call 171; (with_reducible refine (CO _).mono ?_); rintro e w4 ⟨rfl, b4⟩;
              have m0 := cb b4 n7 n5;
              have m1 := cb b4 n7 n6;
              have m2 := fb b4 n7 f5;
              have m3 := fb b4 n7 f6;
              have m4 := Nat.lt_of_lt_of_le n7 b4.size)
          | (go_at_call 170; (with_reducible refine (CU _).mono ?_); rintro e w5 ⟨rfl, b5⟩;
              have o0 := cb b5 m4 m0;
              have o1 := cb b5 m4 m1;
              have o2 := fb b5 m4 m2;
              have o3 := fb b5 m4 m3;
              have o4 := Nat.lt_of_lt_of_le m4 b5.size))
        all_goals
          go_wp2_with (first
            | (go_at_call 172; (with_reducible refine (CH _).mono ?_); rintro e w7 ⟨rfl, b7⟩))
          go_ret
          refine ⟨rfl, ?_⟩
          repeat (first | exact Below.refl _ _ | with_reducible refine ba ?_ _ | with_reducible refine bs ?_ (by omega) _ | with_reducible refine bd ?_ | (with_reducible refine bt ?_ (by assumption)))
      · by_cases hv : D = 2 * R
        · have hv2 : D ≤ 2 * R := by omega
          have hv3 : 2 * R ≤ D := by omega
          clear hv
          have hX : hi X < 0 := by omega
          have dX : decide (hi X < 0) = true := decide_eq_true (by omega)
          have dd : decide (d < 0) = true := decide_eq_true (by omega)
          rw [if_pos (by omega), if_pos (by omega)] at NC
          have CH := whold_any (Q + 1)
          rw [NC]
          have EX := XN (by omega)
          rw [← EX] at CQ
          clear NC XN XP EX PA PB p0 p1 hX hz hx hd
          have hE : (2 * R == D) = true := beq_iff_eq.2 (by omega)
          have hG : decide (D < 2 * R) = false := decide_eq_false (by omega)
          clear hu
          go_enter Tryz.func139, Tryz.ntmps139
          go_upto_region 9 with (first
            | (go_at_call 166; (with_reducible refine (CP _).mono ?_); rintro e w1 ⟨rfl, b1⟩;
                have z1 : w.heap.size ≤ w1.heap.size := b1.size)
            | (go_at_call 167; (with_reducible refine (CN _).mono ?_); rintro e w2 ⟨rfl, b2⟩;
                have n0 : w2.cell? ⟨w1.heap.size, 0, none⟩ = some (.int .i64 (hi X)) := cb b2 (by simp) (by simp);
                have n1 : w2.cell? ⟨w1.heap.size, 1, none⟩ = some (.int .u64 (lo X)) := cb b2 (by simp) (by simp);
                have n2 : w2.frozen? ⟨w1.heap.size, 0, none⟩ = false := fb b2 (by simp) (by simp);
                have n3 : w2.frozen? ⟨w1.heap.size, 1, none⟩ = false := fb b2 (by simp) (by simp);
                have n4 : w1.heap.size < w2.heap.size := (by have := b2.size; simp at this; omega))
            | (go_at_call 168; (with_reducible refine (CS _).mono ?_); rintro e w' ⟨rfl, rfl⟩)
            | (go_at_call 169; (with_reducible refine (CQ _).mono ?_); rintro e w3 ⟨rfl, b3⟩;
                have z3 : w.heap.size ≤ w3.heap.size := (by have := b3.size; simp [World.setCell] at this; omega)))
          have n5 := new0L w3 (.int .i64 (hi Q)) (.int .u64 (lo Q)) 197
          have n6 := new1L w3 (.int .i64 (hi Q)) (.int .u64 (lo Q)) 197
          have n7 := new_ltL w3 (.cells #[.int .i64 (hi Q), .int .u64 (lo Q)] 197)
          have f5 : (w3.alloc (.cells #[.int .i64 (hi Q), .int .u64 (lo Q)] 197)).frozen? ⟨w3.heap.size, 0, none⟩ = false := by simp
          have f6 : (w3.alloc (.cells #[.int .i64 (hi Q), .int .u64 (lo Q)] 197)).frozen? ⟨w3.heap.size, 1, none⟩ = false := by simp
          go_upto_region 10 with (fail)
          go_region_with (first
            | (go_at_call 171; (with_reducible refine (CO _).mono ?_); rintro e w4 ⟨rfl, b4⟩;
                have m0 := cb b4 n7 n5;
                have m1 := cb b4 n7 n6;
                have m2 := fb b4 n7 f5;
                have m3 := fb b4 n7 f6;
                have m4 := Nat.lt_of_lt_of_le n7 b4.size)
            | (go_at_call 170; (with_reducible refine (CU _).mono ?_); rintro e w5 ⟨rfl, b5⟩;
                have o0 := cb b5 m4 m0;
                have o1 := cb b5 m4 m1;
                have o2 := fb b5 m4 m2;
                have o3 := fb b5 m4 m3;
                have o4 := Nat.lt_of_lt_of_le m4 b5.size))
          all_goals
            go_wp2_with (first
              | (go_at_call 172; (with_reducible refine (CH _).mono ?_); rintro e w7 ⟨rfl, b7⟩))
            go_ret
            refine ⟨rfl, ?_⟩
            repeat (first | exact Below.refl _ _ | with_reducible refine ba ?_ _ | with_reducible refine bs ?_ (by omega) _ | with_reducible refine bd ?_ | (with_reducible refine bt ?_ (by assumption)))
        · have hX : hi X < 0 := by omega
          have dX : decide (hi X < 0) = true := decide_eq_true (by omega)
          have dd : decide (d < 0) = true := decide_eq_true (by omega)
          rw [if_pos (by omega), if_neg (by omega)] at NC
          rw [Int.add_zero] at NC
          have CH := whold_any (Q)
          rw [NC]
          have EX := XN (by omega)
          rw [← EX] at CQ
          clear NC XN XP EX PA PB p0 p1 hX hz hx hd
          have hE : (2 * R == D) = false := beq_eq_false_iff_ne.2 (by omega)
          have hG : decide (D < 2 * R) = false := decide_eq_false (by omega)
          go_enter Tryz.func139, Tryz.ntmps139
          go_upto_region 9 with (first
            | (go_at_call 166; (with_reducible refine (CP _).mono ?_); rintro e w1 ⟨rfl, b1⟩;
                have z1 : w.heap.size ≤ w1.heap.size := b1.size)
            | (go_at_call 167; (with_reducible refine (CN _).mono ?_); rintro e w2 ⟨rfl, b2⟩;
                have n0 : w2.cell? ⟨w1.heap.size, 0, none⟩ = some (.int .i64 (hi X)) := cb b2 (by simp) (by simp);
                have n1 : w2.cell? ⟨w1.heap.size, 1, none⟩ = some (.int .u64 (lo X)) := cb b2 (by simp) (by simp);
                have n2 : w2.frozen? ⟨w1.heap.size, 0, none⟩ = false := fb b2 (by simp) (by simp);
                have n3 : w2.frozen? ⟨w1.heap.size, 1, none⟩ = false := fb b2 (by simp) (by simp);
                have n4 : w1.heap.size < w2.heap.size := (by have := b2.size; simp at this; omega))
            | (go_at_call 168; (with_reducible refine (CS _).mono ?_); rintro e w' ⟨rfl, rfl⟩)
            | (go_at_call 169; (with_reducible refine (CQ _).mono ?_); rintro e w3 ⟨rfl, b3⟩;
                have z3 : w.heap.size ≤ w3.heap.size := (by have := b3.size; simp [World.setCell] at this; omega)))
          have n5 := new0L w3 (.int .i64 (hi Q)) (.int .u64 (lo Q)) 197
          have n6 := new1L w3 (.int .i64 (hi Q)) (.int .u64 (lo Q)) 197
          have n7 := new_ltL w3 (.cells #[.int .i64 (hi Q), .int .u64 (lo Q)] 197)
          have f5 : (w3.alloc (.cells #[.int .i64 (hi Q), .int .u64 (lo Q)] 197)).frozen? ⟨w3.heap.size, 0, none⟩ = false := by simp
          have f6 : (w3.alloc (.cells #[.int .i64 (hi Q), .int .u64 (lo Q)] 197)).frozen? ⟨w3.heap.size, 1, none⟩ = false := by simp
          go_wp2_with (first
            | (go_at_call 172; (with_reducible refine (CH _).mono ?_); rintro e w7 ⟨rfl, b7⟩))
          go_ret
          refine ⟨rfl, ?_⟩
          repeat (first | exact Below.refl _ _ | with_reducible refine ba ?_ _ | with_reducible refine bs ?_ (by omega) _ | with_reducible refine bd ?_ | (with_reducible refine bt ?_ (by assumption)))
    · by_cases hu : D < 2 * R
      · have hX : hi X < 0 := by omega
        have dX : decide (hi X < 0) = true := decide_eq_true (by omega)
        have dd : decide (d < 0) = false := decide_eq_false (by omega)
        rw [if_neg (by omega), if_pos (by omega)] at NC
        have CH := whold_any (-(Q + 1))
        rw [NC]
        have EX := XN (by omega)
        rw [← EX] at CQ
        clear NC XN XP EX PA PB p0 p1 hX hz hx hd
        have hG : decide (D < 2 * R) = true := decide_eq_true (by omega)
        go_enter Tryz.func139, Tryz.ntmps139
        go_upto_region 9 with (first
          | (go_at_call 166; (with_reducible refine (CP _).mono ?_); rintro e w1 ⟨rfl, b1⟩;
              have z1 : w.heap.size ≤ w1.heap.size := b1.size)
          | (go_at_call 167; (with_reducible refine (CN _).mono ?_); rintro e w2 ⟨rfl, b2⟩;
              have n0 : w2.cell? ⟨w1.heap.size, 0, none⟩ = some (.int .i64 (hi X)) := cb b2 (by simp) (by simp);
              have n1 : w2.cell? ⟨w1.heap.size, 1, none⟩ = some (.int .u64 (lo X)) := cb b2 (by simp) (by simp);
              have n2 : w2.frozen? ⟨w1.heap.size, 0, none⟩ = false := fb b2 (by simp) (by simp);
              have n3 : w2.frozen? ⟨w1.heap.size, 1, none⟩ = false := fb b2 (by simp) (by simp);
              have n4 : w1.heap.size < w2.heap.size := (by have := b2.size; simp at this; omega))
          | (go_at_call 168; (with_reducible refine (CS _).mono ?_); rintro e w' ⟨rfl, rfl⟩)
          | (go_at_call 169; (with_reducible refine (CQ _).mono ?_); rintro e w3 ⟨rfl, b3⟩;
              have z3 : w.heap.size ≤ w3.heap.size := (by have := b3.size; simp [World.setCell] at this; omega)))
        have n5 := new0L w3 (.int .i64 (hi Q)) (.int .u64 (lo Q)) 197
        have n6 := new1L w3 (.int .i64 (hi Q)) (.int .u64 (lo Q)) 197
        have n7 := new_ltL w3 (.cells #[.int .i64 (hi Q), .int .u64 (lo Q)] 197)
        have f5 : (w3.alloc (.cells #[.int .i64 (hi Q), .int .u64 (lo Q)] 197)).frozen? ⟨w3.heap.size, 0, none⟩ = false := by simp
        have f6 : (w3.alloc (.cells #[.int .i64 (hi Q), .int .u64 (lo Q)] 197)).frozen? ⟨w3.heap.size, 1, none⟩ = false := by simp
        go_upto_region 10 with (fail)
        go_region_with (first
          | (go_at_call 171; (with_reducible refine (CO _).mono ?_); rintro e w4 ⟨rfl, b4⟩;
              have m0 := cb b4 n7 n5;
              have m1 := cb b4 n7 n6;
              have m2 := fb b4 n7 f5;
              have m3 := fb b4 n7 f6;
              have m4 := Nat.lt_of_lt_of_le n7 b4.size)
          | (go_at_call 170; (with_reducible refine (CU _).mono ?_); rintro e w5 ⟨rfl, b5⟩;
              have o0 := cb b5 m4 m0;
              have o1 := cb b5 m4 m1;
              have o2 := fb b5 m4 m2;
              have o3 := fb b5 m4 m3;
              have o4 := Nat.lt_of_lt_of_le m4 b5.size))
        all_goals
          go_wp2_with (first
            | (go_at_call 167; (with_reducible refine (CV _).mono ?_); rintro e w6 ⟨rfl, b6⟩;
                have o5 := cb b6 (by simpa [World.setCell] using o4) (cs (by omega) (cw o0));
                have o6 := cb b6 (by simpa [World.setCell] using o4) (cw (cs (by omega) o1));
                have o7 := fb b6 (o := 0) (by simpa [World.setCell] using o4) (by simp [o2]);
                have o8 := fb b6 (o := 1) (by simpa [World.setCell] using o4) (by simp [o3]))
            | (go_at_call 172; (with_reducible refine (CH _).mono ?_); rintro e w7 ⟨rfl, b7⟩))
          go_ret
          refine ⟨rfl, ?_⟩
          repeat (first | exact Below.refl _ _ | with_reducible refine ba ?_ _ | with_reducible refine bs ?_ (by omega) _ | with_reducible refine bd ?_ | (with_reducible refine bt ?_ (by assumption)))
      · by_cases hv : D = 2 * R
        · have hv2 : D ≤ 2 * R := by omega
          have hv3 : 2 * R ≤ D := by omega
          clear hv
          have hX : hi X < 0 := by omega
          have dX : decide (hi X < 0) = true := decide_eq_true (by omega)
          have dd : decide (d < 0) = false := decide_eq_false (by omega)
          rw [if_neg (by omega), if_neg (by omega)] at NC
          rw [Int.add_zero] at NC
          have CH := whold_any (-Q)
          rw [NC]
          have EX := XN (by omega)
          rw [← EX] at CQ
          clear NC XN XP EX PA PB p0 p1 hX hz hx hd
          have hE : (2 * R == D) = true := beq_iff_eq.2 (by omega)
          have hG : decide (D < 2 * R) = false := decide_eq_false (by omega)
          clear hu
          go_enter Tryz.func139, Tryz.ntmps139
          go_upto_region 9 with (first
            | (go_at_call 166; (with_reducible refine (CP _).mono ?_); rintro e w1 ⟨rfl, b1⟩;
                have z1 : w.heap.size ≤ w1.heap.size := b1.size)
            | (go_at_call 167; (with_reducible refine (CN _).mono ?_); rintro e w2 ⟨rfl, b2⟩;
                have n0 : w2.cell? ⟨w1.heap.size, 0, none⟩ = some (.int .i64 (hi X)) := cb b2 (by simp) (by simp);
                have n1 : w2.cell? ⟨w1.heap.size, 1, none⟩ = some (.int .u64 (lo X)) := cb b2 (by simp) (by simp);
                have n2 : w2.frozen? ⟨w1.heap.size, 0, none⟩ = false := fb b2 (by simp) (by simp);
                have n3 : w2.frozen? ⟨w1.heap.size, 1, none⟩ = false := fb b2 (by simp) (by simp);
                have n4 : w1.heap.size < w2.heap.size := (by have := b2.size; simp at this; omega))
            | (go_at_call 168; (with_reducible refine (CS _).mono ?_); rintro e w' ⟨rfl, rfl⟩)
            | (go_at_call 169; (with_reducible refine (CQ _).mono ?_); rintro e w3 ⟨rfl, b3⟩;
                have z3 : w.heap.size ≤ w3.heap.size := (by have := b3.size; simp [World.setCell] at this; omega)))
          have n5 := new0L w3 (.int .i64 (hi Q)) (.int .u64 (lo Q)) 197
          have n6 := new1L w3 (.int .i64 (hi Q)) (.int .u64 (lo Q)) 197
          have n7 := new_ltL w3 (.cells #[.int .i64 (hi Q), .int .u64 (lo Q)] 197)
          have f5 : (w3.alloc (.cells #[.int .i64 (hi Q), .int .u64 (lo Q)] 197)).frozen? ⟨w3.heap.size, 0, none⟩ = false := by simp
          have f6 : (w3.alloc (.cells #[.int .i64 (hi Q), .int .u64 (lo Q)] 197)).frozen? ⟨w3.heap.size, 1, none⟩ = false := by simp
          go_wp2_with (first
            | (go_at_call 167; (with_reducible refine (CM _).mono ?_); rintro e w6 ⟨rfl, b6⟩;
                have m0 := cb b6 n7 n5;
                have m1 := cb b6 n7 n6;
                have m2 := fb b6 n7 f5;
                have m3 := fb b6 n7 f6)
            | (go_at_call 172; (with_reducible refine (CH _).mono ?_); rintro e w7 ⟨rfl, b7⟩))
          go_ret
          refine ⟨rfl, ?_⟩
          repeat (first | exact Below.refl _ _ | with_reducible refine ba ?_ _ | with_reducible refine bs ?_ (by omega) _ | with_reducible refine bd ?_ | (with_reducible refine bt ?_ (by assumption)))
        · have hX : hi X < 0 := by omega
          have dX : decide (hi X < 0) = true := decide_eq_true (by omega)
          have dd : decide (d < 0) = false := decide_eq_false (by omega)
          rw [if_neg (by omega), if_neg (by omega)] at NC
          rw [Int.add_zero] at NC
          have CH := whold_any (-Q)
          rw [NC]
          have EX := XN (by omega)
          rw [← EX] at CQ
          clear NC XN XP EX PA PB p0 p1 hX hz hx hd
          have hE : (2 * R == D) = false := beq_eq_false_iff_ne.2 (by omega)
          have hG : decide (D < 2 * R) = false := decide_eq_false (by omega)
          go_enter Tryz.func139, Tryz.ntmps139
          go_upto_region 9 with (first
            | (go_at_call 166; (with_reducible refine (CP _).mono ?_); rintro e w1 ⟨rfl, b1⟩;
                have z1 : w.heap.size ≤ w1.heap.size := b1.size)
            | (go_at_call 167; (with_reducible refine (CN _).mono ?_); rintro e w2 ⟨rfl, b2⟩;
                have n0 : w2.cell? ⟨w1.heap.size, 0, none⟩ = some (.int .i64 (hi X)) := cb b2 (by simp) (by simp);
                have n1 : w2.cell? ⟨w1.heap.size, 1, none⟩ = some (.int .u64 (lo X)) := cb b2 (by simp) (by simp);
                have n2 : w2.frozen? ⟨w1.heap.size, 0, none⟩ = false := fb b2 (by simp) (by simp);
                have n3 : w2.frozen? ⟨w1.heap.size, 1, none⟩ = false := fb b2 (by simp) (by simp);
                have n4 : w1.heap.size < w2.heap.size := (by have := b2.size; simp at this; omega))
            | (go_at_call 168; (with_reducible refine (CS _).mono ?_); rintro e w' ⟨rfl, rfl⟩)
            | (go_at_call 169; (with_reducible refine (CQ _).mono ?_); rintro e w3 ⟨rfl, b3⟩;
                have z3 : w.heap.size ≤ w3.heap.size := (by have := b3.size; simp [World.setCell] at this; omega)))
          have n5 := new0L w3 (.int .i64 (hi Q)) (.int .u64 (lo Q)) 197
          have n6 := new1L w3 (.int .i64 (hi Q)) (.int .u64 (lo Q)) 197
          have n7 := new_ltL w3 (.cells #[.int .i64 (hi Q), .int .u64 (lo Q)] 197)
          have f5 : (w3.alloc (.cells #[.int .i64 (hi Q), .int .u64 (lo Q)] 197)).frozen? ⟨w3.heap.size, 0, none⟩ = false := by simp
          have f6 : (w3.alloc (.cells #[.int .i64 (hi Q), .int .u64 (lo Q)] 197)).frozen? ⟨w3.heap.size, 1, none⟩ = false := by simp
          go_wp2_with (first
            | (go_at_call 167; (with_reducible refine (CM _).mono ?_); rintro e w6 ⟨rfl, b6⟩;
                have m0 := cb b6 n7 n5;
                have m1 := cb b6 n7 n6;
                have m2 := fb b6 n7 f5;
                have m3 := fb b6 n7 f6)
            | (go_at_call 172; (with_reducible refine (CH _).mono ?_); rintro e w7 ⟨rfl, b7⟩))
          go_ret
          refine ⟨rfl, ?_⟩
          repeat (first | exact Below.refl _ _ | with_reducible refine ba ?_ _ | with_reducible refine bs ?_ (by omega) _ | with_reducible refine bd ?_ | (with_reducible refine bt ?_ (by assumption)))
  · have hx2 : 0 ≤ hi X := by unfold hi; omega
    by_cases hd : d < 0
    · by_cases hu : D < 2 * R
      · have hX : 0 ≤ hi X := by omega
        have dX : decide (hi X < 0) = false := decide_eq_false (by omega)
        have dd : decide (d < 0) = true := decide_eq_true (by omega)
        rw [if_neg (by omega), if_pos (by omega)] at NC
        have CH := whold_any (-(Q + 1))
        rw [NC]
        have EX := XP (by omega)
        rw [← EX] at CQ
        clear NC XN XP EX PA PB p0 p1 hX hz hx hd
        have hG : decide (D < 2 * R) = true := decide_eq_true (by omega)
        go_enter Tryz.func139, Tryz.ntmps139
        go_upto_region 9 with (first
          | (go_at_call 166; (with_reducible refine (CP _).mono ?_); rintro e w1 ⟨rfl, b1⟩;
              have z1 : w.heap.size ≤ w1.heap.size := b1.size)
          | (go_at_call 168; (with_reducible refine (CS _).mono ?_); rintro e w' ⟨rfl, rfl⟩)
          | (go_at_call 169; (with_reducible refine (CQ _).mono ?_); rintro e w3 ⟨rfl, b3⟩;
              have z3 : w.heap.size ≤ w3.heap.size := (by have := b3.size; simp at this; omega)))
        have n5 := new0L w3 (.int .i64 (hi Q)) (.int .u64 (lo Q)) 197
        have n6 := new1L w3 (.int .i64 (hi Q)) (.int .u64 (lo Q)) 197
        have n7 := new_ltL w3 (.cells #[.int .i64 (hi Q), .int .u64 (lo Q)] 197)
        have f5 : (w3.alloc (.cells #[.int .i64 (hi Q), .int .u64 (lo Q)] 197)).frozen? ⟨w3.heap.size, 0, none⟩ = false := by simp
        have f6 : (w3.alloc (.cells #[.int .i64 (hi Q), .int .u64 (lo Q)] 197)).frozen? ⟨w3.heap.size, 1, none⟩ = false := by simp
        go_upto_region 10 with (fail)
        go_region_with (first
          | (go_at_call 171; (with_reducible refine (CO _).mono ?_); rintro e w4 ⟨rfl, b4⟩;
              have m0 := cb b4 n7 n5;
              have m1 := cb b4 n7 n6;
              have m2 := fb b4 n7 f5;
              have m3 := fb b4 n7 f6;
              have m4 := Nat.lt_of_lt_of_le n7 b4.size)
          | (go_at_call 170; (with_reducible refine (CU _).mono ?_); rintro e w5 ⟨rfl, b5⟩;
              have o0 := cb b5 m4 m0;
              have o1 := cb b5 m4 m1;
              have o2 := fb b5 m4 m2;
              have o3 := fb b5 m4 m3;
              have o4 := Nat.lt_of_lt_of_le m4 b5.size))
        all_goals
          go_wp2_with (first
            | (go_at_call 167; (with_reducible refine (CV _).mono ?_); rintro e w6 ⟨rfl, b6⟩;
                have o5 := cb b6 (by simpa [World.setCell] using o4) (cs (by omega) (cw o0));
                have o6 := cb b6 (by simpa [World.setCell] using o4) (cw (cs (by omega) o1));
                have o7 := fb b6 (o := 0) (by simpa [World.setCell] using o4) (by simp [o2]);
                have o8 := fb b6 (o := 1) (by simpa [World.setCell] using o4) (by simp [o3]))
            | (go_at_call 172; (with_reducible refine (CH _).mono ?_); rintro e w7 ⟨rfl, b7⟩))
          go_ret
          refine ⟨rfl, ?_⟩
          repeat (first | exact Below.refl _ _ | with_reducible refine ba ?_ _ | with_reducible refine bs ?_ (by omega) _ | with_reducible refine bd ?_ | (with_reducible refine bt ?_ (by assumption)))
      · by_cases hv : D = 2 * R
        · have hv2 : D ≤ 2 * R := by omega
          have hv3 : 2 * R ≤ D := by omega
          clear hv
          have hX : 0 ≤ hi X := by omega
          have dX : decide (hi X < 0) = false := decide_eq_false (by omega)
          have dd : decide (d < 0) = true := decide_eq_true (by omega)
          rw [if_neg (by omega), if_neg (by omega)] at NC
          rw [Int.add_zero] at NC
          have CH := whold_any (-Q)
          rw [NC]
          have EX := XP (by omega)
          rw [← EX] at CQ
          clear NC XN XP EX PA PB p0 p1 hX hz hx hd
          have hE : (2 * R == D) = true := beq_iff_eq.2 (by omega)
          have hG : decide (D < 2 * R) = false := decide_eq_false (by omega)
          clear hu
          go_enter Tryz.func139, Tryz.ntmps139
          go_upto_region 9 with (first
            | (go_at_call 166; (with_reducible refine (CP _).mono ?_); rintro e w1 ⟨rfl, b1⟩;
                have z1 : w.heap.size ≤ w1.heap.size := b1.size)
            | (go_at_call 168; (with_reducible refine (CS _).mono ?_); rintro e w' ⟨rfl, rfl⟩)
            | (go_at_call 169; (with_reducible refine (CQ _).mono ?_); rintro e w3 ⟨rfl, b3⟩;
                have z3 : w.heap.size ≤ w3.heap.size := (by have := b3.size; simp at this; omega)))
          have n5 := new0L w3 (.int .i64 (hi Q)) (.int .u64 (lo Q)) 197
          have n6 := new1L w3 (.int .i64 (hi Q)) (.int .u64 (lo Q)) 197
          have n7 := new_ltL w3 (.cells #[.int .i64 (hi Q), .int .u64 (lo Q)] 197)
          have f5 : (w3.alloc (.cells #[.int .i64 (hi Q), .int .u64 (lo Q)] 197)).frozen? ⟨w3.heap.size, 0, none⟩ = false := by simp
          have f6 : (w3.alloc (.cells #[.int .i64 (hi Q), .int .u64 (lo Q)] 197)).frozen? ⟨w3.heap.size, 1, none⟩ = false := by simp
          go_wp2_with (first
            | (go_at_call 167; (with_reducible refine (CM _).mono ?_); rintro e w6 ⟨rfl, b6⟩;
                have m0 := cb b6 n7 n5;
                have m1 := cb b6 n7 n6;
                have m2 := fb b6 n7 f5;
                have m3 := fb b6 n7 f6)
            | (go_at_call 172; (with_reducible refine (CH _).mono ?_); rintro e w7 ⟨rfl, b7⟩))
          go_ret
          refine ⟨rfl, ?_⟩
          repeat (first | exact Below.refl _ _ | with_reducible refine ba ?_ _ | with_reducible refine bs ?_ (by omega) _ | with_reducible refine bd ?_ | (with_reducible refine bt ?_ (by assumption)))
        · have hX : 0 ≤ hi X := by omega
          have dX : decide (hi X < 0) = false := decide_eq_false (by omega)
          have dd : decide (d < 0) = true := decide_eq_true (by omega)
          rw [if_neg (by omega), if_neg (by omega)] at NC
          rw [Int.add_zero] at NC
          have CH := whold_any (-Q)
          rw [NC]
          have EX := XP (by omega)
          rw [← EX] at CQ
          clear NC XN XP EX PA PB p0 p1 hX hz hx hd
          have hE : (2 * R == D) = false := beq_eq_false_iff_ne.2 (by omega)
          have hG : decide (D < 2 * R) = false := decide_eq_false (by omega)
          go_enter Tryz.func139, Tryz.ntmps139
          go_upto_region 9 with (first
            | (go_at_call 166; (with_reducible refine (CP _).mono ?_); rintro e w1 ⟨rfl, b1⟩;
                have z1 : w.heap.size ≤ w1.heap.size := b1.size)
            | (go_at_call 168; (with_reducible refine (CS _).mono ?_); rintro e w' ⟨rfl, rfl⟩)
            | (go_at_call 169; (with_reducible refine (CQ _).mono ?_); rintro e w3 ⟨rfl, b3⟩;
                have z3 : w.heap.size ≤ w3.heap.size := (by have := b3.size; simp at this; omega)))
          have n5 := new0L w3 (.int .i64 (hi Q)) (.int .u64 (lo Q)) 197
          have n6 := new1L w3 (.int .i64 (hi Q)) (.int .u64 (lo Q)) 197
          have n7 := new_ltL w3 (.cells #[.int .i64 (hi Q), .int .u64 (lo Q)] 197)
          have f5 : (w3.alloc (.cells #[.int .i64 (hi Q), .int .u64 (lo Q)] 197)).frozen? ⟨w3.heap.size, 0, none⟩ = false := by simp
          have f6 : (w3.alloc (.cells #[.int .i64 (hi Q), .int .u64 (lo Q)] 197)).frozen? ⟨w3.heap.size, 1, none⟩ = false := by simp
          go_wp2_with (first
            | (go_at_call 167; (with_reducible refine (CM _).mono ?_); rintro e w6 ⟨rfl, b6⟩;
                have m0 := cb b6 n7 n5;
                have m1 := cb b6 n7 n6;
                have m2 := fb b6 n7 f5;
                have m3 := fb b6 n7 f6)
            | (go_at_call 172; (with_reducible refine (CH _).mono ?_); rintro e w7 ⟨rfl, b7⟩))
          go_ret
          refine ⟨rfl, ?_⟩
          repeat (first | exact Below.refl _ _ | with_reducible refine ba ?_ _ | with_reducible refine bs ?_ (by omega) _ | with_reducible refine bd ?_ | (with_reducible refine bt ?_ (by assumption)))
    · by_cases hu : D < 2 * R
      · have hX : 0 ≤ hi X := by omega
        have dX : decide (hi X < 0) = false := decide_eq_false (by omega)
        have dd : decide (d < 0) = false := decide_eq_false (by omega)
        rw [if_pos (by omega), if_pos (by omega)] at NC
        have CH := whold_any (Q + 1)
        rw [NC]
        have EX := XP (by omega)
        rw [← EX] at CQ
        clear NC XN XP EX PA PB p0 p1 hX hz hx hd
        have hG : decide (D < 2 * R) = true := decide_eq_true (by omega)
        go_enter Tryz.func139, Tryz.ntmps139
        go_upto_region 9 with (first
          | (go_at_call 166; (with_reducible refine (CP _).mono ?_); rintro e w1 ⟨rfl, b1⟩;
              have z1 : w.heap.size ≤ w1.heap.size := b1.size)
          | (go_at_call 168; (with_reducible refine (CS _).mono ?_); rintro e w' ⟨rfl, rfl⟩)
          | (go_at_call 169; (with_reducible refine (CQ _).mono ?_); rintro e w3 ⟨rfl, b3⟩;
              have z3 : w.heap.size ≤ w3.heap.size := (by have := b3.size; simp at this; omega)))
        have n5 := new0L w3 (.int .i64 (hi Q)) (.int .u64 (lo Q)) 197
        have n6 := new1L w3 (.int .i64 (hi Q)) (.int .u64 (lo Q)) 197
        have n7 := new_ltL w3 (.cells #[.int .i64 (hi Q), .int .u64 (lo Q)] 197)
        have f5 : (w3.alloc (.cells #[.int .i64 (hi Q), .int .u64 (lo Q)] 197)).frozen? ⟨w3.heap.size, 0, none⟩ = false := by simp
        have f6 : (w3.alloc (.cells #[.int .i64 (hi Q), .int .u64 (lo Q)] 197)).frozen? ⟨w3.heap.size, 1, none⟩ = false := by simp
        go_upto_region 10 with (fail)
        go_region_with (first
          | (go_at_call 171; (with_reducible refine (CO _).mono ?_); rintro e w4 ⟨rfl, b4⟩;
              have m0 := cb b4 n7 n5;
              have m1 := cb b4 n7 n6;
              have m2 := fb b4 n7 f5;
              have m3 := fb b4 n7 f6;
              have m4 := Nat.lt_of_lt_of_le n7 b4.size)
          | (go_at_call 170; (with_reducible refine (CU _).mono ?_); rintro e w5 ⟨rfl, b5⟩;
              have o0 := cb b5 m4 m0;
              have o1 := cb b5 m4 m1;
              have o2 := fb b5 m4 m2;
              have o3 := fb b5 m4 m3;
              have o4 := Nat.lt_of_lt_of_le m4 b5.size))
        all_goals
          go_wp2_with (first
            | (go_at_call 172; (with_reducible refine (CH _).mono ?_); rintro e w7 ⟨rfl, b7⟩))
          go_ret
          refine ⟨rfl, ?_⟩
          repeat (first | exact Below.refl _ _ | with_reducible refine ba ?_ _ | with_reducible refine bs ?_ (by omega) _ | with_reducible refine bd ?_ | (with_reducible refine bt ?_ (by assumption)))
      · by_cases hv : D = 2 * R
        · have hv2 : D ≤ 2 * R := by omega
          have hv3 : 2 * R ≤ D := by omega
          clear hv
          have hX : 0 ≤ hi X := by omega
          have dX : decide (hi X < 0) = false := decide_eq_false (by omega)
          have dd : decide (d < 0) = false := decide_eq_false (by omega)
          rw [if_pos (by omega), if_pos (by omega)] at NC
          have CH := whold_any (Q + 1)
          rw [NC]
          have EX := XP (by omega)
          rw [← EX] at CQ
          clear NC XN XP EX PA PB p0 p1 hX hz hx hd
          have hE : (2 * R == D) = true := beq_iff_eq.2 (by omega)
          have hG : decide (D < 2 * R) = false := decide_eq_false (by omega)
          clear hu
          go_enter Tryz.func139, Tryz.ntmps139
          go_upto_region 9 with (first
            | (go_at_call 166; (with_reducible refine (CP _).mono ?_); rintro e w1 ⟨rfl, b1⟩;
                have z1 : w.heap.size ≤ w1.heap.size := b1.size)
            | (go_at_call 168; (with_reducible refine (CS _).mono ?_); rintro e w' ⟨rfl, rfl⟩)
            | (go_at_call 169; (with_reducible refine (CQ _).mono ?_); rintro e w3 ⟨rfl, b3⟩;
                have z3 : w.heap.size ≤ w3.heap.size := (by have := b3.size; simp at this; omega)))
          have n5 := new0L w3 (.int .i64 (hi Q)) (.int .u64 (lo Q)) 197
          have n6 := new1L w3 (.int .i64 (hi Q)) (.int .u64 (lo Q)) 197
          have n7 := new_ltL w3 (.cells #[.int .i64 (hi Q), .int .u64 (lo Q)] 197)
          have f5 : (w3.alloc (.cells #[.int .i64 (hi Q), .int .u64 (lo Q)] 197)).frozen? ⟨w3.heap.size, 0, none⟩ = false := by simp
          have f6 : (w3.alloc (.cells #[.int .i64 (hi Q), .int .u64 (lo Q)] 197)).frozen? ⟨w3.heap.size, 1, none⟩ = false := by simp
          go_upto_region 10 with (fail)
          go_region_with (first
            | (go_at_call 171; (with_reducible refine (CO _).mono ?_); rintro e w4 ⟨rfl, b4⟩;
                have m0 := cb b4 n7 n5;
                have m1 := cb b4 n7 n6;
                have m2 := fb b4 n7 f5;
                have m3 := fb b4 n7 f6;
                have m4 := Nat.lt_of_lt_of_le n7 b4.size)
            | (go_at_call 170; (with_reducible refine (CU _).mono ?_); rintro e w5 ⟨rfl, b5⟩;
                have o0 := cb b5 m4 m0;
                have o1 := cb b5 m4 m1;
                have o2 := fb b5 m4 m2;
                have o3 := fb b5 m4 m3;
                have o4 := Nat.lt_of_lt_of_le m4 b5.size))
          all_goals
            go_wp2_with (first
              | (go_at_call 172; (with_reducible refine (CH _).mono ?_); rintro e w7 ⟨rfl, b7⟩))
            go_ret
            refine ⟨rfl, ?_⟩
            repeat (first | exact Below.refl _ _ | with_reducible refine ba ?_ _ | with_reducible refine bs ?_ (by omega) _ | with_reducible refine bd ?_ | (with_reducible refine bt ?_ (by assumption)))
        · have hX : 0 ≤ hi X := by omega
          have dX : decide (hi X < 0) = false := decide_eq_false (by omega)
          have dd : decide (d < 0) = false := decide_eq_false (by omega)
          rw [if_pos (by omega), if_neg (by omega)] at NC
          rw [Int.add_zero] at NC
          have CH := whold_any (Q)
          rw [NC]
          have EX := XP (by omega)
          rw [← EX] at CQ
          clear NC XN XP EX PA PB p0 p1 hX hz hx hd
          have hE : (2 * R == D) = false := beq_eq_false_iff_ne.2 (by omega)
          have hG : decide (D < 2 * R) = false := decide_eq_false (by omega)
          go_enter Tryz.func139, Tryz.ntmps139
          go_upto_region 9 with (first
            | (go_at_call 166; (with_reducible refine (CP _).mono ?_); rintro e w1 ⟨rfl, b1⟩;
                have z1 : w.heap.size ≤ w1.heap.size := b1.size)
            | (go_at_call 168; (with_reducible refine (CS _).mono ?_); rintro e w' ⟨rfl, rfl⟩)
            | (go_at_call 169; (with_reducible refine (CQ _).mono ?_); rintro e w3 ⟨rfl, b3⟩;
                have z3 : w.heap.size ≤ w3.heap.size := (by have := b3.size; simp at this; omega)))
          have n5 := new0L w3 (.int .i64 (hi Q)) (.int .u64 (lo Q)) 197
          have n6 := new1L w3 (.int .i64 (hi Q)) (.int .u64 (lo Q)) 197
          have n7 := new_ltL w3 (.cells #[.int .i64 (hi Q), .int .u64 (lo Q)] 197)
          have f5 : (w3.alloc (.cells #[.int .i64 (hi Q), .int .u64 (lo Q)] 197)).frozen? ⟨w3.heap.size, 0, none⟩ = false := by simp
          have f6 : (w3.alloc (.cells #[.int .i64 (hi Q), .int .u64 (lo Q)] 197)).frozen? ⟨w3.heap.size, 1, none⟩ = false := by simp
          go_wp2_with (first
            | (go_at_call 172; (with_reducible refine (CH _).mono ?_); rintro e w7 ⟨rfl, b7⟩))
          go_ret
          refine ⟨rfl, ?_⟩
          repeat (first | exact Below.refl _ _ | with_reducible refine ba ?_ _ | with_reducible refine bs ?_ (by omega) _ | with_reducible refine bd ?_ | (with_reducible refine bt ?_ (by assumption)))
end Go.Proofs.YtaafhjngnjjcmaaGreatDoor
