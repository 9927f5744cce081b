/- Parts, joined. -/
import Derived.Test.YtaafhjngnjjcmaaGreatDoorJ04
import Derived.Test.YtaafhjngnjjcmaaGreatDoorJ03
import Derived.Test.YtaafhjngnjjcmaaGreatDoorJ02
import Derived.Test.YtaafhjngnjjcmaaGreatDoorJ01
import Derived.Laws.Bits64b
/- The document's shift, rounded. -/
namespace Go.Proofs.YtaafhjngnjjcmaaGreatDoor
open Go.RowKit


/-- Three numbers in blocks of the call's own; all else is as it was. -/
structure ShSt (w wq : World) (a b c : Nat) (X Y Z : Int) : Prop where
  x : BigAt wq a X
  y : BigAt wq b Y
  z : BigAt wq c Z
  hb : Below w.heap.size w wq
theorem ShSt.below {w wq w1 : World} {a b c : Nat} {X Y Z : Int} (h : ShSt w wq a b c X Y Z) (hb : Below wq.heap.size wq w1) : ShSt w w1 a b c X Y Z :=
  ⟨h.x.below hb, h.y.below hb, h.z.below hb, bt h.hb hb⟩
theorem ShSt.drew {w wq : World} {a b c : Nat} {X Y Z : Int} (h : ShSt w wq a b c X Y Z) : ShSt w wq.drew a b c X Y Z := ⟨h.x.drew, h.y.drew, h.z.drew, h.hb.drew⟩
theorem ShSt.alloc {w wq : World} {a b c : Nat} {X Y Z : Int} (h : ShSt w wq a b c X Y Z) (o : Obj) : ShSt w (wq.alloc o) a b c X Y Z := ⟨h.x.alloc o, h.y.alloc o, h.z.alloc o, ba h.hb o⟩
theorem ShSt.setZ {w wq : World} {a b c : Nat} {X Y Z : Int} (Z' : Int) (h : ShSt w wq a b c X Y Z) (hc : w.heap.size ≤ c) (h1 : a ≠ c) (h2 : b ≠ c) :
    ShSt w ((wq.setCell ⟨c, 0, none⟩ (.int .u64 (hi Z'))).setCell ⟨c, 1, none⟩ (.int .u64 (lo Z'))) a b c X Y Z' :=
  ⟨h.x.far (Ne.symm h1), h.y.far (Ne.symm h2), h.z.set Z', bs (bs h.hb hc _) hc _⟩
theorem ShSt.far {w wq : World} {a b c d o o' : Nat} {u v : Value} {X Y Z : Int} (h : ShSt w wq a b c X Y Z) (hd : w.heap.size ≤ d) (h1 : a ≠ d) (h2 : b ≠ d) (h3 : c ≠ d) :
    ShSt w ((wq.setCell ⟨d, o, none⟩ u).setCell ⟨d, o', none⟩ v) a b c X Y Z :=
  ⟨h.x.far (Ne.symm h1), h.y.far (Ne.symm h2), h.z.far (Ne.symm h3), bs (bs h.hb hd _) hd _⟩
theorem new_lt' (w : World) (o : Obj) : w.heap.size < (w.alloc o).heap.size := by simp
theorem ShSt.zero {w wr : World} {N : Nat} {M : Int} {t : TypeId} (g : BigAt wr w.heap.size (2 ^ N)) (hb : Below w.heap.size w wr) (M0 : 0 ≤ M) (M1 : M < 18446744073709551616) :
    ShSt w ((wr.alloc (.cells #[.int .u64 0, .int .u64 M] t)).alloc (.cells #[.int .u64 0, .int .u64 0] t)) w.heap.size wr.heap.size (wr.heap.size + 1) (2 ^ N) M (M / 2 ^ 128) := by
  refine ⟨(g.alloc _).alloc _, (BigAt.new wr (hiz _ M0 M1) (loz _ M0 M1) _).alloc _, ?_, ba (ba hb _) _⟩
  rw [div_pow_all M0 (by omega)]
  have h := BigAt.new (wr.alloc (.cells #[.int .u64 0, .int .u64 M] t)) (h := 0) (l := 0) (X := 0) rfl rfl t
  simpa using h
theorem refshift_small (x n : Int) (h : n < 1) (w : World) :
    Calls Tryz.prog 61 #[.int .i64 x, .int .i64 n] w fun e w' => e = .returned (.int .i64 x) ∧ w = w' := by
  go_enter Tryz.func61, Tryz.ntmps61
  go_wp2
  go_ret
  exact ⟨rfl, rfl⟩
theorem refshift_great (x n : Int) (h : 64 < n) (w : World) :
    Calls Tryz.prog 61 #[.int .i64 x, .int .i64 n] w fun e w' => e = .returned (.int .i64 0) ∧ w = w' := by
  go_enter Tryz.func61, Tryz.ntmps61
  go_wp2
  go_ret
  exact ⟨rfl, rfl⟩
set_option maxRecDepth 100000 in
set_option maxHeartbeats 4000000 in
theorem refshift_mid (x M : Int) (N : Nat) (hM : absI x = M) (h0 : -9223372036854775808 ≤ x) (h1 : x ≤ 9223372036854775807) (hN : N ≤ 63) (w : World) :
    Calls Tryz.prog 61 #[.int .i64 x, .int .i64 ((N : Int) + 1)] w fun e w' =>
      e = .returned (.int .i64 (shiftF x ((N : Int) + 1))) ∧ Below w.heap.size w w' := by
  have CS := refsize_to x M hM h0 h1
  have M0 : 0 ≤ M := hM ▸ absI0 x
  have M1 : M ≤ 9223372036854775808 := hM ▸ absI1 h0 (by omega)
  have HM := hide hM
  clear hM
  have t1 : decide ((N : Int) + 1 < 1) = false := decide_eq_false (by omega)
  have t2 : decide ((64 : Int) < (N : Int) + 1) = false := decide_eq_false (by omega)
  go_enter Tryz.func61, Tryz.ntmps61
  go_wp2
  go_loopw [21] (fun i wr => ∃ j : Nat, j ≤ N ∧ i = .int .i64 j ∧ BigAt wr w.heap.size (2 ^ j) ∧ Below w.heap.size w wr) (fun i _ => N - (intOf i).toNat)
  case atStart => exact ⟨0, by omega, rfl, BigAt.new w (h := 0) (l := 1) (X := 2 ^ 0) rfl rfl _, below1 _ _⟩
  case round =>
    obtain ⟨j, hj, rfl, g, hb⟩ := hrel
    by_cases hlt : j < N
    · have G := hide g
      have HB := hide hb
      obtain ⟨c0, c1, f0, f1, lt⟩ := g
      clear hb
      have CT := twice_zero (2 ^ j) (Int.le_of_lt (pow2_pos j)) (pow2_lt6 (by omega))
      rw [← pow2_succ] at CT
      go_wp2_with (first
        | (go_at_call 88; (with_reducible refine (CT _).mono ?_); rintro e w3 ⟨rfl, hb3⟩; have q3 := cb hb3 lt c0; have q4 := cb hb3 lt c1; have t3 := fb hb3 lt f0; have t4 := fb hb3 lt f1))
      go_roundw
      case rel => exact ⟨j + 1, by omega, by go_num, (G.out.below hb3).set _, ((HB.out.trans (hb3.mono (by have := HB.out.size; omega))).setCell (by show _ ≤ w.heap.size; omega) _).setCell (by show _ ≤ w.heap.size; omega) _⟩
      case measure => simp [intOf]; omega
    · obtain rfl : N = j := by omega
      clear hj hlt
      have G := hide g
      have HB := hide hb
      have zs := hb.size
      clear g hb
      go_wp2_with (first
        | (go_at_call 89; (with_reducible refine (CS _).mono ?_); rintro e w' ⟨rfl, rfl⟩))
      rename World => W1
      go_loopw [8] (fun i wq => ∃ j : Nat, N + 1 ≤ j ∧ j ≤ 128 ∧ i = .int .i64 ((j : Int) - 1) ∧ ShSt w wq w.heap.size W1.heap.size (W1.heap.size + 1) (2 ^ N) M (M / 2 ^ j)) (fun i _ => (intOf i + 1).toNat)
      case atStart => exact ⟨128, by omega, by omega, rfl, ShSt.zero G.out HB.out M0 (by omega)⟩
      case round =>
        obtain ⟨j, hj0, hj1, rfl, hst⟩ := hrel
        have lt0 := G.out.lt
        have ST := hide hst
        by_cases hlt : N + 1 < j
        · obtain ⟨k, rfl⟩ : ∃ k, j = k + 1 := ⟨j - 1, by omega⟩
          have ek : ((k + 1 : Nat) : Int) - 1 = (k : Int) := by omega
          rw [ek]
          clear ek
          have P0 : 0 ≤ M / 2 ^ (k + 1) := Int.ediv_nonneg M0 (Int.le_of_lt (pow2_pos _))
          have P1 := div_pow_half k M0 (show M < 340282366920938463463374607431768211456 by omega)
          have CB := bit_any M k M0 (by omega) (by omega)
          have CT := twice_any (M / 2 ^ (k + 1)) (bitI M k) P0 P1 (bitI0 M k) (bitI1 M k)
          rw [← half_pow] at CT
          obtain ⟨-, ⟨m0, m1, -, -, ml⟩, ⟨q0, q1, qf0, qf1, ql⟩, -⟩ := hst
          clear P0 P1 CS
          go_wp2
          go_region_with
            (first
              | (go_at_call 90; refine (CB _).mono ?_; rintro e w1 ⟨rfl, hb1⟩;
                  have s0 := cb hb1 ql q0;
                  have s1 := cb hb1 ql q1)
              | (go_at_call 88; refine (CT _).mono ?_; rintro e w2 ⟨rfl, hb2⟩;
                  have z1 := Nat.lt_of_lt_of_le ql hb1.size;
                  have s2 := cb hb2 z1 s0;
                  have s3 := cb hb2 z1 s1;
                  have t2 := fb hb2 z1 (fb hb1 ql qf0);
                  have t3 := fb hb2 z1 (fb hb1 ql qf1)))
          all_goals
            go_wp2
            go_roundw
            case rel => exact ⟨k, by omega, by omega, rfl, ((ST.out.drew.below hb1).below hb2).setZ _ (by omega) (by omega) (by omega)⟩
            case measure => simp [intOf]
        · obtain rfl : j = N + 1 := by omega
          have ek : ((N + 1 : Nat) : Int) - 1 = (N : Int) := by omega
          rw [ek]
          clear ek hj0 hj1 hlt
          obtain ⟨-, ⟨m0, m1, -, -, ml⟩, ⟨-, -, -, -, ql⟩, -⟩ := hst
          go_wp2
          rename World => W2
          have z2 : W2.heap.size < (W2.alloc (.cells #[.int .u64 (hi M), .int .u64 (lo M)] 141)).heap.size := new_lt' _ _
          go_loopw [10] (fun i wq => ∃ j : Nat, N + 1 ≤ j ∧ j ≤ 128 ∧ i = .int .i64 j ∧ ShSt w wq w.heap.size W1.heap.size (W1.heap.size + 1) (2 ^ N) M (M / 2 ^ (N + 1)) ∧ BigAt wq W2.heap.size (restI M (N + 1) j)) (fun i _ => 128 - (intOf i).toNat)
          case atStart => exact ⟨N + 1, by omega, by omega, by go_num, ST.out.alloc _, by rw [rest_start]; exact BigAt.new W2 rfl rfl _⟩
          case round =>
            obtain ⟨i, hi0, hi1, rfl, hst, hr⟩ := hrel
            have S3 := hide hst
            have R3 := hide hr
            obtain ⟨⟨p0, p1, -, -, pl⟩, ⟨m0, m1, -, -, ml⟩, ⟨q0, q1, qf0, qf1, ql⟩, hb⟩ := hst
            obtain ⟨r0, r1, rf0, rf1, rl⟩ := hr
            clear hb
            by_cases hlt : i < 128
            · have CB := bit_any M i M0 (by omega) hlt
              by_cases hbit : bitI M i = 1
              · rw [hbit] at CB
                have HB := hide hbit
                clear hbit
                go_wp2_with (first
                  | (go_at_call 90; (with_reducible refine (CB _).mono ?_); rintro e w4 ⟨rfl, b4⟩))
                have s4 := b4.size
                rename World => W4
                have CM := minus_any (restI M (N + 1) i) (2 ^ i) (Int.le_of_lt (pow2_pos i)) (rest_bit (N + 1) i M0 HB.out).1 (by have := rest_le (N + 1) i M0; omega)
                rw [(rest_bit (N + 1) i M0 HB.out).2] at CM
                have S4 := hide ((S3.out.below b4).alloc (.cells #[.int .u64 0, .int .u64 1] 141))
                have R4 := hide ((R3.out.below b4).alloc (.cells #[.int .u64 0, .int .u64 1] 141))
                have P4 := hide (BigAt.new W4 (h := 0) (l := 1) (X := 2 ^ 0) rfl rfl 141)
                clear p0 p1 m0 m1 q0 q1 qf0 qf1 r0 r1 rf0 rf1 CB
                go_loopw [52] (fun v wq => ∃ j : Nat, j ≤ i ∧ v = .int .i64 j ∧ ShSt w wq w.heap.size W1.heap.size (W1.heap.size + 1) (2 ^ N) M (M / 2 ^ (N + 1)) ∧ BigAt wq W2.heap.size (restI M (N + 1) i) ∧ BigAt wq W4.heap.size (2 ^ j)) (fun v _ => i - (intOf v).toNat)
                case atStart => exact ⟨0, by omega, rfl, S4.out, R4.out, P4.out⟩
                case round =>
                  obtain ⟨j, hj, rfl, hs5, hr5, hp5⟩ := hrel
                  have S5 := hide hs5
                  have R5 := hide hr5
                  have P5 := hide hp5
                  obtain ⟨a0, a1, af0, af1, al⟩ := hp5
                  obtain ⟨r0, r1, rf0, rf1, rl5⟩ := hr5
                  clear hs5
                  by_cases hji : j < i
                  · have CT := twice_zero (2 ^ j) (Int.le_of_lt (pow2_pos j)) (pow2_lt6 (by omega))
                    rw [← pow2_succ] at CT
                    go_wp2_with (first
                      | (go_at_call 88; (with_reducible refine (CT _).mono ?_); rintro e w5 ⟨rfl, b5⟩; have q3 := cb b5 al a0; have q4 := cb b5 al a1; have t3 := fb b5 al af0; have t4 := fb b5 al af1))
                    go_roundw
                    case rel => exact ⟨j + 1, by omega, by go_num, (S5.out.below b5).far (by omega) (by omega) (by omega) (by omega), (R5.out.below b5).far (by omega), (P5.out.below b5).set _⟩
                    case measure => simp [intOf]; omega
                  · obtain rfl : i = j := by omega
                    go_wp2_with (first
                      | (go_at_call 91; (with_reducible refine (CM _).mono ?_); rintro e w5 ⟨rfl, b5⟩; have q3 := cb b5 rl5 r0; have q4 := cb b5 rl5 r1; have t3 := fb b5 rl5 rf0; have t4 := fb b5 rl5 rf1))
                    go_roundw
                    case rel => exact ⟨i + 1, by omega, by omega, by go_num, (S5.out.below b5).far (by omega) (by omega) (by omega) (by omega), (R5.out.below b5).set _⟩
                    case measure => simp [intOf]; omega
              · have hb0 : bitI M i = 0 := by have := bitI0 M i; have := bitI1 M i; omega
                rw [hb0] at CB
                have HB := hide hb0
                clear hbit hb0
                go_wp2_with (first
                  | (go_at_call 90; (with_reducible refine (CB _).mono ?_); rintro e w4 ⟨rfl, b4⟩))
                go_roundw
                case rel => exact ⟨i + 1, by omega, by omega, by go_num, S3.out.below b4, by have e := rest_step M (N + 1) i; rw [HB.out, Int.mul_zero, Int.add_zero] at e; rw [← e]; exact R3.out.below b4⟩
                case measure => simp [intOf]; omega
            · obtain rfl : i = 128 := by omega
              rw [rest_end (N + 1) M0 (by omega)] at R3 r0 r1
              have RR := rest_in (x := M) (pow2_pos (N + 1))
              have hf := pow2_pos N
              have hf2 := pow2_lt (i := N) (by omega)
              have QQ := quo_le M0 (pow2_pos (N + 1))
              have RM : M % 2 ^ (N + 1) ≤ M := by
                have e2 := Int.mul_ediv_add_emod M (2 ^ (N + 1))
                have := Int.mul_nonneg (Int.le_of_lt (pow2_pos (N + 1))) (Int.ediv_nonneg M0 (Int.le_of_lt (pow2_pos (N + 1))))
                omega
              obtain ⟨res0, res1⟩ := shift_res HM.out h0 h1 hN
              obtain ⟨RR0, -⟩ := RR
              obtain ⟨QQ0, QQ1⟩ := QQ
              clear m0 m1 p0 p1 q0 q1 qf0 qf1 r0 r1 rf0 rf1 hlt CS hi0 hi1
              have P3 := S3.out.x
              have Q3 := S3.out.z
              obtain ⟨p0, p1, -, -, pl⟩ := P3
              obtain ⟨q0, q1, qf0, qf1, ql⟩ := Q3
              have R3' := R3.out
              obtain ⟨r0, r1, -, -, rl⟩ := R3'
              generalize (2 : Int) ^ N = hf' at *
              generalize M % 2 ^ (N + 1) = R at *
              generalize M / 2 ^ (N + 1) = Q at *
              by_cases hx : x < 0
              · by_cases c1 : hf' < R
                · have CL := less_any R hf' (by omega) (by omega) (by omega) (by omega)
                  rw [show decide (R < hf') = false from decide_eq_false (by omega)] at CL
                  have CK := less_any hf' R (by omega) (by omega) (by omega) (by omega)
                  rw [show decide (hf' < R) = true from decide_eq_true (by omega)] at CK
                  have CP := plus_one Q QQ0 (by omega)
                  have CH := hold_any (Q + 1) true (by omega) (by omega)
                  have da : decide (x < 0) = true := decide_eq_true (by omega)
                  have res := hide (res1 hx)
                  rw [if_pos c1] at res
                  clear res0 res1
                  go_wp2_with (first
                    | (go_at_call 92; (with_reducible refine (CL _).mono ?_); rintro e w5 ⟨rfl, b5⟩; have pl5 := Nat.lt_of_lt_of_le pl b5.size; have p0_5 := cb b5 pl p0; have p1_5 := cb b5 pl p1; have ql5 := Nat.lt_of_lt_of_le ql b5.size; have q0_5 := cb b5 ql q0; have q1_5 := cb b5 ql q1; have qf0_5 := fb b5 ql qf0; have qf1_5 := fb b5 ql qf1; have rl5 := Nat.lt_of_lt_of_le rl b5.size; have r0_5 := cb b5 rl r0; have r1_5 := cb b5 rl r1; have S5 := hide (S3.out.below b5))
                    | (go_at_call 92; (with_reducible refine (CK _).mono ?_); rintro e w6 ⟨rfl, b6⟩; have pl6 := Nat.lt_of_lt_of_le pl5 b6.size; have p0_6 := cb b6 pl5 p0_5; have p1_6 := cb b6 pl5 p1_5; have ql6 := Nat.lt_of_lt_of_le ql5 b6.size; have q0_6 := cb b6 ql5 q0_5; have q1_6 := cb b6 ql5 q1_5; have qf0_6 := fb b6 ql5 qf0_5; have qf1_6 := fb b6 ql5 qf1_5; have rl6 := Nat.lt_of_lt_of_le rl5 b6.size; have r0_6 := cb b6 rl5 r0_5; have r1_6 := cb b6 rl5 r1_5; have S6 := hide (S5.out.below b6))
                    | (go_at_call 93; (with_reducible refine (CP _).mono ?_); rintro e w7 ⟨rfl, b7⟩; have ql7 := Nat.lt_of_lt_of_le ql6 b7.size; have q0_7 := cb b7 ql6 q0_6; have q1_7 := cb b7 ql6 q1_6; have qf0_7 := fb b7 ql6 qf0_6; have qf1_7 := fb b7 ql6 qf1_6; have S7 := hide (ShSt.setZ (Q + 1) (S6.out.below b7) (by omega) (by omega) (by omega)); have q0_8 := S7.out.z.c0; have q1_8 := S7.out.z.c1)
                    | (go_at_call 94; (with_reducible refine (CH _).mono ?_); rintro e w9 ⟨rfl, b9⟩))
                  go_ret
                  exact ⟨ret_i64 (by rw [res.out]; simp [signI]), bt S7.out.hb b9⟩
                · by_cases c2 : hf' = R
                  · have c3 : R ≤ hf' := by omega
                    have c4 : hf' ≤ R := by omega
                    clear c2
                    have CL := less_any R hf' (by omega) (by omega) (by omega) (by omega)
                    rw [show decide (R < hf') = false from decide_eq_false (by omega)] at CL
                    have CK := less_any hf' R (by omega) (by omega) (by omega) (by omega)
                    rw [show decide (hf' < R) = false from decide_eq_false (by omega)] at CK
                    have CH := hold_any Q true (by omega) (by omega)
                    have da : decide (x < 0) = true := decide_eq_true (by omega)
                    have res := hide (res1 hx)
                    rw [if_neg c1] at res
                    clear res0 res1
                    go_wp2_with (first
                      | (go_at_call 92; (with_reducible refine (CL _).mono ?_); rintro e w5 ⟨rfl, b5⟩; have pl5 := Nat.lt_of_lt_of_le pl b5.size; have p0_5 := cb b5 pl p0; have p1_5 := cb b5 pl p1; have ql5 := Nat.lt_of_lt_of_le ql b5.size; have q0_5 := cb b5 ql q0; have q1_5 := cb b5 ql q1; have qf0_5 := fb b5 ql qf0; have qf1_5 := fb b5 ql qf1; have rl5 := Nat.lt_of_lt_of_le rl b5.size; have r0_5 := cb b5 rl r0; have r1_5 := cb b5 rl r1; have S5 := hide (S3.out.below b5))
                      | (go_at_call 92; (with_reducible refine (CK _).mono ?_); rintro e w6 ⟨rfl, b6⟩; have pl6 := Nat.lt_of_lt_of_le pl5 b6.size; have p0_6 := cb b6 pl5 p0_5; have p1_6 := cb b6 pl5 p1_5; have ql6 := Nat.lt_of_lt_of_le ql5 b6.size; have q0_6 := cb b6 ql5 q0_5; have q1_6 := cb b6 ql5 q1_5; have qf0_6 := fb b6 ql5 qf0_5; have qf1_6 := fb b6 ql5 qf1_5; have rl6 := Nat.lt_of_lt_of_le rl5 b6.size; have r0_6 := cb b6 rl5 r0_5; have r1_6 := cb b6 rl5 r1_5; have S6 := hide (S5.out.below b6))
                      | (go_at_call 94; (with_reducible refine (CH _).mono ?_); rintro e w9 ⟨rfl, b9⟩))
                    go_ret
                    exact ⟨ret_i64 (by rw [res.out]; simp [signI]), bt S6.out.hb b9⟩
                  · have CL := less_any R hf' (by omega) (by omega) (by omega) (by omega)
                    rw [show decide (R < hf') = true from decide_eq_true (by omega)] at CL
                    have CK := less_any hf' R (by omega) (by omega) (by omega) (by omega)
                    rw [show decide (hf' < R) = false from decide_eq_false (by omega)] at CK
                    have CH := hold_any Q true (by omega) (by omega)
                    have da : decide (x < 0) = true := decide_eq_true (by omega)
                    have res := hide (res1 hx)
                    rw [if_neg c1] at res
                    clear res0 res1
                    go_wp2_with (first
                      | (go_at_call 92; (with_reducible refine (CL _).mono ?_); rintro e w5 ⟨rfl, b5⟩; have pl5 := Nat.lt_of_lt_of_le pl b5.size; have p0_5 := cb b5 pl p0; have p1_5 := cb b5 pl p1; have ql5 := Nat.lt_of_lt_of_le ql b5.size; have q0_5 := cb b5 ql q0; have q1_5 := cb b5 ql q1; have qf0_5 := fb b5 ql qf0; have qf1_5 := fb b5 ql qf1; have rl5 := Nat.lt_of_lt_of_le rl b5.size; have r0_5 := cb b5 rl r0; have r1_5 := cb b5 rl r1; have S5 := hide (S3.out.below b5))
                      | (go_at_call 92; (with_reducible refine (CK _).mono ?_); rintro e w6 ⟨rfl, b6⟩; have pl6 := Nat.lt_of_lt_of_le pl5 b6.size; have p0_6 := cb b6 pl5 p0_5; have p1_6 := cb b6 pl5 p1_5; have ql6 := Nat.lt_of_lt_of_le ql5 b6.size; have q0_6 := cb b6 ql5 q0_5; have q1_6 := cb b6 ql5 q1_5; have qf0_6 := fb b6 ql5 qf0_5; have qf1_6 := fb b6 ql5 qf1_5; have rl6 := Nat.lt_of_lt_of_le rl5 b6.size; have r0_6 := cb b6 rl5 r0_5; have r1_6 := cb b6 rl5 r1_5; have S6 := hide (S5.out.below b6))
                      | (go_at_call 94; (with_reducible refine (CH _).mono ?_); rintro e w9 ⟨rfl, b9⟩))
                    go_ret
                    exact ⟨ret_i64 (by rw [res.out]; simp [signI]), bt S6.out.hb b9⟩
              · by_cases c1 : hf' ≤ R
                · have CL := less_any R hf' (by omega) (by omega) (by omega) (by omega)
                  rw [show decide (R < hf') = false from decide_eq_false (by omega)] at CL
                  have CP := plus_one Q QQ0 (by omega)
                  have CH := hold_any (Q + 1) false (by omega) (by omega)
                  have da : decide (x < 0) = false := decide_eq_false (by omega)
                  have res := hide (res0 (by omega))
                  rw [if_pos c1] at res
                  clear res0 res1
                  go_wp2_with (first
                    | (go_at_call 92; (with_reducible refine (CL _).mono ?_); rintro e w5 ⟨rfl, b5⟩; have pl5 := Nat.lt_of_lt_of_le pl b5.size; have p0_5 := cb b5 pl p0; have p1_5 := cb b5 pl p1; have ql5 := Nat.lt_of_lt_of_le ql b5.size; have q0_5 := cb b5 ql q0; have q1_5 := cb b5 ql q1; have qf0_5 := fb b5 ql qf0; have qf1_5 := fb b5 ql qf1; have rl5 := Nat.lt_of_lt_of_le rl b5.size; have r0_5 := cb b5 rl r0; have r1_5 := cb b5 rl r1; have S5 := hide (S3.out.below b5))
                    | (go_at_call 93; (with_reducible refine (CP _).mono ?_); rintro e w7 ⟨rfl, b7⟩; have ql7 := Nat.lt_of_lt_of_le ql5 b7.size; have q0_7 := cb b7 ql5 q0_5; have q1_7 := cb b7 ql5 q1_5; have qf0_7 := fb b7 ql5 qf0_5; have qf1_7 := fb b7 ql5 qf1_5; have S7 := hide (ShSt.setZ (Q + 1) (S5.out.below b7) (by omega) (by omega) (by omega)); have q0_8 := S7.out.z.c0; have q1_8 := S7.out.z.c1)
                    | (go_at_call 94; (with_reducible refine (CH _).mono ?_); rintro e w9 ⟨rfl, b9⟩))
                  go_ret
                  exact ⟨ret_i64 (by rw [res.out]; simp [signI]), bt S7.out.hb b9⟩
                · have CL := less_any R hf' (by omega) (by omega) (by omega) (by omega)
                  rw [show decide (R < hf') = true from decide_eq_true (by omega)] at CL
                  have CH := hold_any Q false (by omega) (by omega)
                  have da : decide (x < 0) = false := decide_eq_false (by omega)
                  have res := hide (res0 (by omega))
                  rw [if_neg c1] at res
                  clear res0 res1
                  go_wp2_with (first
                    | (go_at_call 92; (with_reducible refine (CL _).mono ?_); rintro e w5 ⟨rfl, b5⟩; have pl5 := Nat.lt_of_lt_of_le pl b5.size; have p0_5 := cb b5 pl p0; have p1_5 := cb b5 pl p1; have ql5 := Nat.lt_of_lt_of_le ql b5.size; have q0_5 := cb b5 ql q0; have q1_5 := cb b5 ql q1; have qf0_5 := fb b5 ql qf0; have qf1_5 := fb b5 ql qf1; have rl5 := Nat.lt_of_lt_of_le rl b5.size; have r0_5 := cb b5 rl r0; have r1_5 := cb b5 rl r1; have S5 := hide (S3.out.below b5))
                    | (go_at_call 94; (with_reducible refine (CH _).mono ?_); rintro e w9 ⟨rfl, b9⟩))
                  go_ret
                  exact ⟨ret_i64 (by rw [res.out]; simp [signI]), bt S5.out.hb b9⟩
end Go.Proofs.YtaafhjngnjjcmaaGreatDoor

/- The program's rounded quotient (fixed.Div). -/
namespace Go.Proofs.YtaafhjngnjjcmaaGreatDoor
open Go.RowKit


theorem half_neg (r b : Int) (hb : b < 0) (b0 : -9223372036854775808 ≤ b) (r0 : b < r) (r1 : r ≤ 0) (t : Bool) (ht : decide (2 * r ≤ b) = t) (w : World) :
    Calls Tryz.prog 177 #[.int .i64 r, .int .i64 b] w fun e w' => e = .returned (.bool t) ∧ w = w' := by
  have T := hide ht
  clear ht
  go_enter Tryz.func177, Tryz.ntmps177
  go_wp2
  go_ret
  exact ⟨ret_bool ((decide_eq_decide.2 (by omega)).trans T.out), rfl⟩
theorem half_pos (r b : Int) (hb : 0 < b) (b0 : b ≤ 9223372036854775807) (r0 : 0 ≤ r) (r1 : r < b) (t : Bool) (ht : decide (b ≤ 2 * r) = t) (w : World) :
    Calls Tryz.prog 177 #[.int .i64 r, .int .i64 b] w fun e w' => e = .returned (.bool t) ∧ w = w' := by
  have T := hide ht
  clear ht
  have hb' : ¬ b < 0 := by omega
  go_enter Tryz.func177, Tryz.ntmps177
  go_wp2
  go_ret
  exact ⟨ret_bool ((decide_eq_decide.2 (by omega)).trans T.out), rfl⟩
theorem fixdiv_any (a b : Int) (h0 : -9223372036854775808 ≤ a) (h1 : a ≤ 9223372036854775807) (k0 : -9223372036854775808 ≤ b) (k1 : b ≤ 9223372036854775807) (w : World) :
    Calls Tryz.prog 156 #[.int .i64 a, .int .i64 b] w fun e w' => e = .returned (.int .i64 (divF a b)) ∧ w = w' := by
  have CF := fixfloor_any a b h0 h1 k0 k1
  have CM := fixmod_any a b h0 h1 k0 k1
  by_cases hb : b = 0
  · subst hb
    rw [show floorF a 0 = 0 from if_pos rfl] at CF
    rw [show modF a 0 = 0 from if_pos rfl] at CM
    rw [show divF a 0 = 0 from if_pos rfl]
    go_enter Tryz.func156, Tryz.ntmps156
    go_wp2_with (first
      | (go_at_call 135; (with_reducible refine (CF _).mono ?_); rintro e w' ⟨rfl, rfl⟩)
      | (go_at_call 129; (with_reducible refine (CM _).mono ?_); rintro e w' ⟨rfl, rfl⟩))
    go_ret
    exact ⟨rfl, rfl⟩
  rw [floorF_of hb] at CF
  rw [modF_of hb] at CM
  rw [divF_of hb]
  have I := floorR_in a b
  by_cases hr : floorR a b = 0
  · have e : nearQ a b = floorQ a b := by
      by_cases hn : b < 0
      · rw [near_neg hn, hr, if_neg (by omega), Int.add_zero]
      · rw [near_pos (by omega), hr, if_neg (by omega), Int.add_zero]
    rw [e]
    rw [hr] at CM
    clear e I hr
    go_enter Tryz.func156, Tryz.ntmps156
    go_wp2_with (first
      | (go_at_call 135; (with_reducible refine (CF _).mono ?_); rintro e w' ⟨rfl, rfl⟩)
      | (go_at_call 129; (with_reducible refine (CM _).mono ?_); rintro e w' ⟨rfl, rfl⟩))
    go_ret
    exact ⟨rfl, rfl⟩
  have Q := floorQ_mid h0 h1 hb hr
  rw [holdI_in (by omega) (by omega)] at CF
  have key : ∃ t : Bool, nearQ a b = floorQ a b + (if t = true then 1 else 0) ∧ (∀ w : World, Calls Tryz.prog 177 #[.int .i64 (floorR a b), .int .i64 b] w fun e w' => e = .returned (.bool t) ∧ w = w') := by
    by_cases hn : b < 0
    · have i := I.2 hn
      refine ⟨decide (2 * floorR a b ≤ b), ?_, fun w => half_neg _ b hn k0 i.1 i.2 _ rfl w⟩
      rw [near_neg hn]; simp only [decide_eq_true_eq]
    · have i := I.1 (by omega)
      refine ⟨decide (b ≤ 2 * floorR a b), ?_, fun w => half_pos _ b (by omega) k1 i.1 i.2 _ rfl w⟩
      rw [near_pos (by omega)]; simp only [decide_eq_true_eq]
  obtain ⟨t, et, CH⟩ := key
  have hr' : (floorR a b != 0) = true := by simp [hr]
  clear hr I
  rw [et]
  clear et
  generalize floorQ a b = q at *
  generalize floorR a b = r at *
  cases t
  · rw [if_neg (by decide), Int.add_zero, holdI_in (by omega) (by omega)]
    go_enter Tryz.func156, Tryz.ntmps156
    go_wp2_with (first
      | (go_at_call 135; (with_reducible refine (CF _).mono ?_); rintro e w' ⟨rfl, rfl⟩)
      | (go_at_call 129; (with_reducible refine (CM _).mono ?_); rintro e w' ⟨rfl, rfl⟩)
      | (go_at_call 177; (with_reducible refine (CH _).mono ?_); rintro e w' ⟨rfl, rfl⟩))
    go_ret
    exact ⟨rfl, rfl⟩
  · rw [if_pos rfl, holdI_in (by omega) (by omega)]
    go_enter Tryz.func156, Tryz.ntmps156
    go_wp2_with (first
      | (go_at_call 135; (with_reducible refine (CF _).mono ?_); rintro e w' ⟨rfl, rfl⟩)
      | (go_at_call 129; (with_reducible refine (CM _).mono ?_); rintro e w' ⟨rfl, rfl⟩)
      | (go_at_call 177; (with_reducible refine (CH _).mono ?_); rintro e w' ⟨rfl, rfl⟩))
    go_ret
    exact ⟨by first | rfl | exact ret_i64 (wrap_in' (by omega) (by omega)), rfl⟩
end Go.Proofs.YtaafhjngnjjcmaaGreatDoor

/- The law on shifts. -/
namespace Go.Proofs.YtaafhjngnjjcmaaGreatDoor
open Go.RowKit


theorem refshift_any (x n : Int) (h0 : -9223372036854775808 ≤ x) (h1 : x ≤ 9223372036854775807) (w : World) :
    Calls Tryz.prog 61 #[.int .i64 x, .int .i64 n] w fun e w' => e = .returned (.int .i64 (shiftF x n)) ∧ Below w.heap.size w w' := by
  by_cases hs : n < 1
  · rw [show shiftF x n = x from if_pos (by omega)]
    exact (refshift_small x n hs w).mono fun e w' ⟨he, hw⟩ => ⟨he, hw ▸ Below.refl _ _⟩
  by_cases hg : 64 < n
  · rw [show shiftF x n = 0 from (if_neg (by omega)).trans (if_pos (by omega))]
    exact (refshift_great x n hg w).mono fun e w' ⟨he, hw⟩ => ⟨he, hw ▸ Below.refl _ _⟩
  obtain ⟨N, rfl⟩ : ∃ N : Nat, n = (N : Int) + 1 := ⟨n.toNat - 1, by omega⟩
  exact refshift_mid x _ N rfl h0 h1 (by omega) w
end Go.Proofs.YtaafhjngnjjcmaaGreatDoor

/- Plain arithmetic for this seat: long numbers of 128 bits with a sign, going round. No program text in sight. -/
namespace Go.Proofs.YtaafhjngnjjcmaaGreatDoor


/-- A whole number, gone round at 2^128 to where long numbers are. -/
def wrapL (x : Int) : Int := (x + 170141183460469231731687303715884105728) % 340282366920938463463374607431768211456 - 170141183460469231731687303715884105728
theorem wrapL_in {x : Int} (h0 : -170141183460469231731687303715884105728 ≤ x) (h1 : x < 170141183460469231731687303715884105728) : wrapL x = x := by unfold wrapL; omega
theorem hiS0 {x : Int} (h0 : -170141183460469231731687303715884105728 ≤ x) : -9223372036854775808 ≤ hi x := by unfold hi; omega
theorem hiS1 {x : Int} (h1 : x < 170141183460469231731687303715884105728) : hi x ≤ 9223372036854775807 := by unfold hi; omega
theorem lo_sum (x y : Int) : (lo x + lo y) % 18446744073709551616 = lo (wrapL (x + y)) := by unfold lo wrapL; omega
theorem hi_sum (x y : Int) : (hi x + hi y + (lo x + lo y) / 18446744073709551616 + 9223372036854775808) % 18446744073709551616 - 9223372036854775808 = hi (wrapL (x + y)) := by unfold hi lo wrapL; omega
theorem lo_neg (x : Int) : (0 - lo x) % 18446744073709551616 = lo (wrapL (-x)) := by unfold lo wrapL; omega
theorem hi_neg (x : Int) : (0 - hi x - (if 0 < lo x then 1 else 0) + 9223372036854775808) % 18446744073709551616 - 9223372036854775808 = hi (wrapL (-x)) := by unfold hi lo wrapL; split <;> omega
theorem hi_sum64 (x y : Int) : ((hi x % 18446744073709551616 + hi y % 18446744073709551616 + (lo x + lo y) / 18446744073709551616) % 18446744073709551616 + 9223372036854775808) % 18446744073709551616 - 9223372036854775808 = hi (wrapL (x + y)) := by rw [← hi_sum]; omega
theorem lo_neg0 {x : Int} (h : lo x = 0) : lo (wrapL (-x)) = 0 := by unfold lo at h; unfold lo wrapL; omega
theorem hi_neg0 {x : Int} (h : lo x = 0) : (-(hi x % 18446744073709551616) % 18446744073709551616 + 9223372036854775808) % 18446744073709551616 - 9223372036854775808 = hi (wrapL (-x)) := by rw [← hi_neg, if_neg (by omega)]; omega
theorem lo_neg1 {x : Int} (_h : 0 < lo x) : -lo x % 18446744073709551616 = lo (wrapL (-x)) := by rw [← lo_neg]; omega
theorem hi_neg1 {x : Int} (h : 0 < lo x) : ((-(hi x % 18446744073709551616) - 1) % 18446744073709551616 + 9223372036854775808) % 18446744073709551616 - 9223372036854775808 = hi (wrapL (-x)) := by rw [← hi_neg, if_pos h]; omega
theorem hiS_one {x : Int} (h0 : -9223372036854775808 ≤ x) (h1 : x ≤ 9223372036854775807) : x / 9223372036854775808 = hi x := by unfold hi; omega
/-- Two numbers that share no bit, put together. -/
theorem or_apart (a b : Int) (k : Nat) (a0 : 0 ≤ a) (a1 : a * 2 ^ k < 18446744073709551616) (b0 : 0 ≤ b) (b1 : b < 2 ^ k) (b2 : b < 18446744073709551616) : bits .or .u64 (a * 2 ^ k) b = a * 2 ^ k + b := by
  obtain ⟨a, rfl⟩ := Int.eq_ofNat_of_zero_le a0
  obtain ⟨b, rfl⟩ := Int.eq_ofNat_of_zero_le b0
  have hk : (2 : Int) ^ k = ((2 ^ k : Nat) : Int) := by simp
  rw [hk] at a1 b1 ⊢
  have e : (a : Int) * ((2 ^ k : Nat) : Int) = ((a * 2 ^ k : Nat) : Int) := by simp
  rw [e] at a1 ⊢
  rw [bits_or_u64_nat _ _ (by omega) (by omega)]
  have h := Nat.two_pow_add_eq_or_of_lt (show b < 2 ^ k by omega) a
  rw [Nat.mul_comm a]
  omega
theorem pow_split {n : Nat} (h : n ≤ 64) : (18446744073709551616 : Int) = 2 ^ n * 2 ^ (64 - n) := by
  have h2 : (18446744073709551616 : Int) = 2 ^ (n + (64 - n)) := by
    have : n + (64 - n) = 64 := by omega
    rw [this]; rfl
  rw [h2, Int.pow_add]
/-- A long number, shifted down. -/
theorem down_far {x : Int} {n : Nat} (h : 64 ≤ n) : hi x / 2 ^ (n - 64) = x / 2 ^ n := by
  have h2 : (2 : Int) ^ n = 18446744073709551616 * 2 ^ (n - 64) := by
    have h2 : (2 : Int) ^ n = 2 ^ (64 + (n - 64)) := by congr 1; omega
    rw [h2, Int.pow_add]; rfl
  unfold hi
  rw [h2, Int.ediv_ediv_of_nonneg (by decide)]
theorem down_hi {x : Int} {n : Nat} : hi x / 2 ^ n = hi (x / 2 ^ n) := by
  unfold hi
  rw [Int.ediv_ediv_of_nonneg (by decide), Int.ediv_ediv_of_nonneg (Int.le_of_lt (pow2_pos n)), Int.mul_comm]
theorem down_lo {x : Int} {n : Nat} (h : n ≤ 64) : bits .or .u64 (IntKind.u64.wrap (IntKind.u64.wrap (hi x) * 2 ^ (64 - n))) (lo x / 2 ^ n) = lo (x / 2 ^ n) := by
  have e := pow_split h
  have p := pow2_pos n
  have q := pow2_pos (64 - n)
  have l0 := lo0 x
  have l1 := lo1 x
  have b0 : 0 ≤ lo x / 2 ^ n := Int.ediv_nonneg l0 (Int.le_of_lt p)
  have b1 : lo x / 2 ^ n < 2 ^ (64 - n) := Int.ediv_lt_of_lt_mul p (by rw [Int.mul_comm, ← e]; exact l1)
  have b2 : lo x / 2 ^ n < 18446744073709551616 := Int.lt_of_le_of_lt (Int.ediv_le_self _ l0) l1
  have ed : x / 2 ^ n = hi x * 2 ^ (64 - n) + lo x / 2 ^ n := by
    have hx := hl x
    conv => lhs; rw [← hx, e]
    rw [Int.mul_comm (2 ^ n) (2 ^ (64 - n)), ← Int.mul_assoc, Int.mul_comm, Int.mul_add_ediv_left _ _ (Int.ne_of_gt p)]
  rw [IntKind.wrap_u64, IntKind.wrap_u64]
  have ew : (hi x % 18446744073709551616 * 2 ^ (64 - n)) % 18446744073709551616 = (hi x % 2 ^ n) * 2 ^ (64 - n) := by
    conv => lhs; rw [e]
    rw [Int.mul_comm (2 ^ n) (2 ^ (64 - n)), Int.mul_comm _ (2 ^ (64 - n)), Int.mul_emod_mul_of_pos _ _ q, Int.mul_comm]
    congr 1
    rw [Int.emod_emod_of_dvd]
    exact ⟨2 ^ (64 - n), Int.mul_comm _ _⟩
  rw [ew]
  have m := rest_in (x := hi x) p
  have hm : hi x % 2 ^ n * 2 ^ (64 - n) < 18446744073709551616 := by
    rw [e]; exact Int.mul_lt_mul_of_pos_right m.2 q
  rw [or_apart _ _ _ m.1 hm b0 b1 b2]
  have hk := Int.mul_ediv_add_emod (hi x) (2 ^ n)
  have et : hi x * 2 ^ (64 - n) = 18446744073709551616 * (hi x / 2 ^ n) + hi x % 2 ^ n * 2 ^ (64 - n) := by
    conv => lhs; rw [← hk]
    rw [Int.add_mul, e, Int.mul_right_comm]
  have hle : (hi x % 2 ^ n + 1) * 2 ^ (64 - n) ≤ 18446744073709551616 := by
    rw [e]; exact Int.mul_le_mul_of_nonneg_right (by omega) (Int.le_of_lt q)
  rw [Int.add_mul, Int.one_mul] at hle
  have m0 := Int.mul_nonneg m.1 (Int.le_of_lt q)
  exact (mod_of (a := x / 2 ^ n) (b := 18446744073709551616) (q := hi x / 2 ^ n) (by rw [ed, et]; omega) (by omega) (by omega)).symm
/-- A long quotient, by halves. -/
theorem div_halves {x d : Int} (d0 : 0 < d) : hi x / d = hi (x / d) ∧ (hi x % d * 18446744073709551616 + lo x) / d = lo (x / d) ∧ (hi x % d * 18446744073709551616 + lo x) % d = x % d := by
  have hx := hl x
  have l0 := lo0 x
  have l1 := lo1 x
  have e := Int.mul_ediv_add_emod (hi x) d
  have r := rest_in (x := hi x) d0
  generalize hi x % d = R at *
  generalize hi x / d = Q at *
  have e2 := Int.mul_ediv_add_emod (R * 18446744073709551616 + lo x) d
  have r2 := rest_in (x := R * 18446744073709551616 + lo x) d0
  have q1 : (R * 18446744073709551616 + lo x) / d < 18446744073709551616 := Int.ediv_lt_of_lt_mul d0 (by
    have : (R + 1) * 18446744073709551616 ≤ d * 18446744073709551616 := Int.mul_le_mul_of_nonneg_right (by omega) (by decide)
    rw [Int.mul_comm 18446744073709551616 d] at *
    omega)
  have q0 : 0 ≤ (R * 18446744073709551616 + lo x) / d := Int.ediv_nonneg (by omega) (by omega)
  generalize (R * 18446744073709551616 + lo x) / d = q at *
  generalize (R * 18446744073709551616 + lo x) % d = r at *
  have ex : x = d * (Q * 18446744073709551616 + q) + r := by
    rw [Int.mul_add, ← Int.mul_assoc]
    generalize d * q = dq at *
    have : d * Q * 18446744073709551616 = (hi x - R) * 18446744073709551616 := by congr 1; omega
    rw [this]
    omega
  rw [div_of ex r2.1 r2.2, mod_of ex r2.1 r2.2]
  exact ⟨hi_of rfl q0 q1, lo_of rfl q0 q1, rfl⟩
end Go.Proofs.YtaafhjngnjjcmaaGreatDoor
