/- Parts, joined. -/
import Derived.Test.YtaafhjngnjjcmaaGreatDoorJ07
import Derived.Test.YtaafhjngnjjcmaaGreatDoorJ08
import Derived.Deep.DeepCutAuto
import Derived.Deep.RegionHeld3
/- The document's product by bits, rounded (smaltoref02.MulShift). -/
namespace Go.Proofs.YtaafhjngnjjcmaaGreatDoor
open Go.RowKit


/-- Two numbers of 128 bits in blocks of the call's own; all else is as it was. -/
structure PQAt (W w : World) (p q : Nat) (X Z : Int) : Prop where
  x : BigAt w p X
  z : BigAt w q Z
  hb : Below W.heap.size W w
theorem PQAt.below {W w w1 : World} {p q : Nat} {X Z : Int} (h : PQAt W w p q X Z) (hb : Below w.heap.size w w1) : PQAt W w1 p q X Z := ⟨h.x.below hb, h.z.below hb, bt h.hb hb⟩
theorem PQAt.drew {W w : World} {p q : Nat} {X Z : Int} (h : PQAt W w p q X Z) : PQAt W w.drew p q X Z := ⟨h.x.drew, h.z.drew, h.hb.drew⟩
theorem PQAt.setZ {W w : World} {p q : Nat} {X Z : Int} (Z' : Int) (h : PQAt W w p q X Z) (hq : W.heap.size ≤ q) (hne : p ≠ q) :
    PQAt W ((w.setCell ⟨q, 0, none⟩ (.int .u64 (hi Z'))).setCell ⟨q, 1, none⟩ (.int .u64 (lo Z'))) p q X Z' := ⟨h.x.far (Ne.symm hne), h.z.set Z', bs (bs h.hb hq _) hq _⟩
theorem PQAt.start {W w : World} {X : Int} {t : TypeId} (hb : Below W.heap.size W w) (X0 : 0 ≤ X) (X1 : X < 340282366920938463463374607431768211456) :
    PQAt W ((w.alloc (.cells #[.int .u64 (hi X), .int .u64 (lo X)] t)).alloc (.cells #[.int .u64 0, .int .u64 0] t)) w.heap.size (w.heap.size + 1) X (X / 2 ^ 128) := by
  refine ⟨(BigAt.new w rfl rfl _).alloc _, ?_, ba (ba hb _) _⟩
  rw [div_pow_all X0 X1]
  have h := BigAt.new (w.alloc (.cells #[.int .u64 (hi X), .int .u64 (lo X)] t)) (h := 0) (l := 0) (X := 0) rfl rfl t
  simpa using h
/-- Is anything left below bit j? -/
def someB (P : Int) (j : Nat) : Bool := decide (P % 2 ^ j ≠ 0)
theorem some_zero (P : Int) : someB P 0 = false := by unfold someB; simp
theorem some_step (P : Int) (j : Nat) : someB P (j + 1) = (someB P j || (bitI P j == 1)) := by
  have e : P % 2 ^ (j + 1) = P % 2 ^ j + 2 ^ j * bitI P j := by
    have h1 := Int.mul_ediv_add_emod P (2 ^ (j + 1))
    have h2 := Int.mul_ediv_add_emod P (2 ^ j)
    have h3 := half_pow P j
    have h4 : (2 : Int) ^ (j + 1) * (P / 2 ^ (j + 1)) = 2 ^ j * (2 * (P / 2 ^ (j + 1))) := by rw [Int.pow_succ, Int.mul_assoc]
    rw [h3, Int.mul_add] at h2
    omega
  have p := pow2_pos j
  have r := rest_in (x := P) p
  have b0 := bitI0 P j
  have b1 := bitI1 P j
  unfold someB
  rw [e]
  by_cases hb : bitI P j = 1
  · rw [hb, Int.mul_one]
    simp
    omega
  · have hb0 : bitI P j = 0 := by omega
    rw [hb0, Int.mul_zero, Int.add_zero]
    simp
/-- One more, or not. -/
def upB (P : Int) (N : Nat) (s : Bool) : Bool := (bitI P N == 1) && (someB P N || !s)
theorem shift_up (P : Int) (N : Nat) (s : Bool) : nearQ (signI P s) (2 ^ (N + 1)) = signI (P / 2 ^ (N + 1) + if upB P N s = true then 1 else 0) s := by
  rw [near_pow]
  have p := pow2_pos N
  have h := half_pow P N
  have b0 := bitI0 P N
  have b1 := bitI1 P N
  cases s
  · show (P / 2 ^ N + 1) / 2 = P / 2 ^ (N + 1) + _
    unfold upB
    by_cases hb : bitI P N = 1
    · rw [if_pos (by simp [hb])]; omega
    · rw [if_neg (by simp [hb])]; omega
  · show (-P / 2 ^ N + 1) / 2 = -(P / 2 ^ (N + 1) + _)
    have f := floor_below (a := P) p
    have r := rest_in (x := P) p
    unfold upB someB
    by_cases hb : bitI P N = 1
    · by_cases hm : P % 2 ^ N = 0
      · rw [if_neg (by omega)] at f
        rw [if_neg (by simp [hm])]; omega
      · rw [if_pos (by omega)] at f
        rw [if_pos (by simp [hb, hm])]; omega
    · rw [if_neg (by simp [hb])]
      split at f <;> omega
theorem refmulshift_great (a b n : Int) (h : 127 < n) (w : World) :
    Calls Tryz.prog 190 #[.int .i64 a, .int .i64 b, .int .i64 n] w fun e w' => e = .returned (.int .i64 0) ∧ Below w.heap.size w w' := by
  go_enter Tryz.func190, Tryz.ntmps190
  go_wp2
  go_ret
  exact ⟨rfl, Below.refl _ _⟩
theorem refmulshift_small (a b n P : Int) (s : Bool) (hP : absI a * absI b = P) (hs : (decide (a < 0) != decide (b < 0)) = s) (h0 : -9223372036854775808 ≤ a) (h1 : a ≤ 9223372036854775807) (k0 : -9223372036854775808 ≤ b) (k1 : b ≤ 9223372036854775807) (h : n ≤ 0) (w : World) :
    Calls Tryz.prog 190 #[.int .i64 a, .int .i64 b, .int .i64 n] w fun e w' => e = .returned (.int .i64 (holdI (signI P s))) ∧ Below w.heap.size w w' := by
  have CA := refsize_any a h0 h1
  have CB := refsize_any b k0 k1
  have a1 : absI a ≤ 9223372036854775808 := absI1 h0 (by omega)
  have b1 : absI b ≤ 9223372036854775808 := absI1 k0 (by omega)
  have CT := times_to (absI a) (absI b) P hP (absI0 a) (by omega) (absI0 b) (by omega)
  have pp := abs_mul_le h0 h1 k0 k1
  rw [hP] at pp
  have CH := hold_any P s pp.1 (by omega)
  have HS := hide hs
  clear hs hP pp a1 b1
  by_cases hn : n < 0
  · have t1 : decide (n < 0) = true := decide_eq_true hn
    clear h hn
    cases hta : decide (a < 0) <;> cases htb : decide (b < 0)
    all_goals
      have hst := HS.out
      rw [hta, htb] at hst
      first | (change false = s at hst) | (change true = s at hst)
      subst hst
      clear HS
      go_enter Tryz.func190, Tryz.ntmps190
      go_wp2_with (first
        | (go_at_call 89; (with_reducible refine (CA _).mono ?_); rintro e w' ⟨rfl, rfl⟩)
        | (go_at_call 89; (with_reducible refine (CB _).mono ?_); rintro e w' ⟨rfl, rfl⟩)
        | (go_at_call 150; (with_reducible refine (CT _).mono ?_); rintro e w1 ⟨rfl, b1⟩)
        | (go_at_call 94; (with_reducible refine (CH _).mono ?_); rintro e w2 ⟨rfl, b2⟩))
      go_ret
      refine ⟨rfl, ?_⟩
      repeat (first | exact Below.refl _ _ | with_reducible refine ba ?_ _ | with_reducible refine bs ?_ (by omega) _ | with_reducible refine bd ?_ | (with_reducible refine bt ?_ (by assumption)))
  · obtain rfl : n = 0 := by omega
    clear h hn
    cases hta : decide (a < 0) <;> cases htb : decide (b < 0)
    all_goals
      have hst := HS.out
      rw [hta, htb] at hst
      first | (change false = s at hst) | (change true = s at hst)
      subst hst
      clear HS
      go_enter Tryz.func190, Tryz.ntmps190
      go_wp2_with (first
        | (go_at_call 89; (with_reducible refine (CA _).mono ?_); rintro e w' ⟨rfl, rfl⟩)
        | (go_at_call 89; (with_reducible refine (CB _).mono ?_); rintro e w' ⟨rfl, rfl⟩)
        | (go_at_call 150; (with_reducible refine (CT _).mono ?_); rintro e w1 ⟨rfl, b1⟩)
        | (go_at_call 94; (with_reducible refine (CH _).mono ?_); rintro e w2 ⟨rfl, b2⟩))
      go_ret
      refine ⟨rfl, ?_⟩
      repeat (first | exact Below.refl _ _ | with_reducible refine ba ?_ _ | with_reducible refine bs ?_ (by omega) _ | with_reducible refine bd ?_ | (with_reducible refine bt ?_ (by assumption)))
set_option maxRecDepth 100000 in
set_option maxHeartbeats 4000000 in
theorem refmulshift_mid (a b P v : Int) (N : Nat) (s : Bool) (hv : holdI (signI (P / 2 ^ (N + 1) + if upB P N s = true then 1 else 0) s) = v) (hP : absI a * absI b = P) (hs : (decide (a < 0) != decide (b < 0)) = s) (h0 : -9223372036854775808 ≤ a) (h1 : a ≤ 9223372036854775807) (k0 : -9223372036854775808 ≤ b) (k1 : b ≤ 9223372036854775807) (hN : N ≤ 126) (w : World) :
    Calls Tryz.prog 190 #[.int .i64 a, .int .i64 b, .int .i64 ((N : Int) + 1)] w fun e w' => e = .returned (.int .i64 v) ∧ Below w.heap.size w w' := by
  have CA := refsize_any a h0 h1
  have CB := refsize_any b k0 k1
  have a1 : absI a ≤ 9223372036854775808 := absI1 h0 (by omega)
  have b1 : absI b ≤ 9223372036854775808 := absI1 k0 (by omega)
  have CT := times_to (absI a) (absI b) P hP (absI0 a) (by omega) (absI0 b) (by omega)
  have pp := abs_mul_le h0 h1 k0 k1
  rw [hP] at pp
  obtain ⟨P0, P1⟩ := pp
  have HS := hide hs
  have HV := hide hv
  clear hv
  clear hs hP a1 b1
  have t1 : decide ((N : Int) + 1 < 0) = false := decide_eq_false (by omega)
  have t2 : decide ((127 : Int) < (N : Int) + 1) = false := decide_eq_false (by omega)
  have t3 : ((N : Int) + 1 == 0) = false := beq_eq_false_iff_ne.2 (by omega)
  go_enter Tryz.func190, Tryz.ntmps190
  go_upto_region 5 with (fail)
  go_cut [7] (fun s7 wx => s7 = .bool s ∧ w = wx)
  case first =>
    cases hta : decide (a < 0) <;> cases htb : decide (b < 0)
    all_goals
      have hst := HS.out
      rw [hta, htb] at hst
      first | (change false = s at hst) | (change true = s at hst)
      subst hst
      clear HS
      go_wp2_with fail
      go_meet
      exact ⟨rfl, rfl⟩
  case rest =>
    obtain ⟨rfl, rfl⟩ := hcut
    clear HS
    go_wp2_with (first
      | (go_at_call 89; (with_reducible refine (CA _).mono ?_); rintro e w' ⟨rfl, rfl⟩)
      | (go_at_call 89; (with_reducible refine (CB _).mono ?_); rintro e w' ⟨rfl, rfl⟩)
      | (go_at_call 150; (with_reducible refine (CT _).mono ?_); rintro e w1 ⟨rfl, b1⟩))
    have zs := b1.size
    have B1 := hide b1
    clear b1 CA CB CT
    go_loopw [10] (fun i wq => ∃ j : Nat, N + 1 ≤ j ∧ j ≤ 128 ∧ i = .int .i64 ((j : Int) - 1) ∧ PQAt w wq w1.heap.size (w1.heap.size + 1) P (P / 2 ^ j)) (fun i _ => (intOf i + 1).toNat)
    case atStart => exact ⟨128, by omega, by omega, rfl, PQAt.start B1.out P0 (by omega)⟩
    case round =>
      obtain ⟨j, hj0, hj1, rfl, hst⟩ := hrel
      have ST := hide hst
      by_cases hlt : N + 1 < j
      · obtain ⟨k, rfl⟩ : ∃ k, j = k + 1 := ⟨j - 1, by omega⟩
        have ek : ((k + 1 : Nat) : Int) - 1 = (k : Int) := by omega
        rw [ek]
        clear ek
        have Q0 : 0 ≤ P / 2 ^ (k + 1) := Int.ediv_nonneg P0 (Int.le_of_lt (pow2_pos _))
        have Q1 := div_pow_half k P0 (show P < 340282366920938463463374607431768211456 by omega)
        have CB := bit_any P k P0 (by omega) (by omega)
        have CT := twice_any (P / 2 ^ (k + 1)) (bitI P k) Q0 Q1 (bitI0 P k) (bitI1 P k)
        rw [← half_pow] at CT
        obtain ⟨⟨m0, m1, -, -, ml⟩, ⟨q0, q1, qf0, qf1, ql⟩, -⟩ := hst
        clear Q0 Q1
        go_wp2
        go_region_with
          (first
            | (go_at_call 90; refine (CB _).mono ?_; rintro e w2 ⟨rfl, hb1⟩;
                have s0 := cb hb1 ql q0;
                have s1 := cb hb1 ql q1)
            | (go_at_call 88; refine (CT _).mono ?_; rintro e w3 ⟨rfl, hb2⟩;
                have z1 := Nat.lt_of_lt_of_le ql hb1.size;
                have s2 := cb hb2 z1 s0;
                have s3 := cb hb2 z1 s1;
                have t2 := fb hb2 z1 (fb hb1 ql qf0);
                have t3 := fb hb2 z1 (fb hb1 ql qf1)))
        all_goals
          go_wp2
          go_roundw
          case rel => exact ⟨k, by omega, by omega, rfl, ((ST.out.drew.below hb1).below hb2).setZ _ (by omega) (by omega)⟩
          case measure => simp [intOf]
      · obtain rfl : j = N + 1 := by omega
        have ek : ((N + 1 : Nat) : Int) - 1 = (N : Int) := by omega
        rw [ek]
        clear ek hj0 hj1 hlt hst
        go_wp2
        have S2 := hide ST.out
        clear ST
        go_loopw [11, 45] (fun m i wq => ∃ j : Nat, j ≤ N ∧ i = .int .i64 j ∧ m = .bool (someB P j) ∧ PQAt w wq w1.heap.size (w1.heap.size + 1) P (P / 2 ^ (N + 1))) (fun _ i _ => N - (intOf i).toNat)
        case atStart => exact ⟨0, by omega, rfl, by rw [some_zero], S2.out⟩
        case round =>
          obtain ⟨j, hj, rfl, rfl, hst⟩ := hrel
          have ST := hide hst
          obtain ⟨⟨m0, m1, -, -, ml⟩, ⟨q0, q1, qf0, qf1, ql⟩, HBx⟩ := hst
          clear S2
          by_cases hlt : j < N
          · clear HBx
            have ss := some_step P j
            by_cases hm : someB P j = true
            · rw [hm] at ss ⊢
              have SS := hide ss
              clear ss hm
              go_wp2
              go_roundw
              case rel => exact ⟨j + 1, by omega, by go_num, by rw [SS.out]; rfl, ST.out⟩
              case measure => simp [intOf]; omega
            · have hm' : someB P j = false := by simpa using hm
              rw [hm'] at ss ⊢
              have CB := bit_any P j P0 (by omega) (by omega)
              by_cases hb : bitI P j = 1
              · rw [hb] at CB ss
                have SS := hide ss
                clear ss hm hm' hb
                go_wp2_with (go_at_call 90; (with_reducible refine (CB _).mono ?_); rintro e w4 ⟨rfl, b4⟩)
                go_roundw
                case rel => exact ⟨j + 1, by omega, by go_num, by rw [SS.out]; rfl, ST.out.below b4⟩
                case measure => simp [intOf]; omega
              · have hb0 : bitI P j = 0 := by have := bitI0 P j; have := bitI1 P j; omega
                rw [hb0] at CB ss
                have SS := hide ss
                clear ss hm hm' hb hb0
                go_wp2_with (go_at_call 90; (with_reducible refine (CB _).mono ?_); rintro e w4 ⟨rfl, b4⟩)
                go_roundw
                case rel => exact ⟨j + 1, by omega, by go_num, by rw [SS.out]; rfl, ST.out.below b4⟩
                case measure => simp [intOf]; omega
          · obtain rfl : N = j := by omega
            clear hlt ST
            have CN := bit_any P N P0 (by omega) (by omega)
            have QQ := quo_le P0 (pow2_pos (N + 1))
            have hv0 := HV.out
            clear HV
            generalize P / 2 ^ (N + 1) = Q at *
            have HV := hide hv0
            clear hv0
            obtain ⟨QQ0, QQ1⟩ := QQ
            have CP := plus_one Q QQ0 (by omega)
            by_cases hb : bitI P N = 1
            · rw [hb] at CN
              have eu : upB P N s = (true && (someB P N || !s)) := by unfold upB; rw [hb]; rfl
              have hv := HV.out
              rw [eu] at hv
              clear HV eu hb
              generalize someB P N = m at *
              cases m <;> cases s
              · have CH := hold_any (Q + 1) false (by omega) (by omega)
                rw [if_pos (by decide)] at hv
                have HV := hide hv
                clear hv
                go_wp2_with (first
                  | (go_at_call 90; (with_reducible refine (CN _).mono ?_); rintro e w4 ⟨rfl, b4⟩; have l4 := Nat.lt_of_lt_of_le ql b4.size; have q0_4 := cb b4 ql q0; have q1_4 := cb b4 ql q1; have qf0_4 := fb b4 ql qf0; have qf1_4 := fb b4 ql qf1)
                  | (go_at_call 93; (with_reducible refine (CP _).mono ?_); rintro e w5 ⟨rfl, b5⟩; have l5 := Nat.lt_of_lt_of_le l4 b5.size; have q0_5 := cb b5 l4 q0_4; have q1_5 := cb b5 l4 q1_4; have qf0_5 := fb b5 l4 qf0_4; have qf1_5 := fb b5 l4 qf1_4)
                  | (go_at_call 94; (with_reducible refine (CH _).mono ?_); rintro e w6 ⟨rfl, b6⟩))
                go_ret
                refine ⟨ret_i64 HV.out, ?_⟩
                repeat (first | exact HBx | with_reducible refine ba ?_ _ | with_reducible refine bs ?_ (by omega) _ | with_reducible refine bd ?_ | (with_reducible refine bt ?_ (by assumption)))
              · have CH := hold_any Q true (by omega) (by omega)
                rw [if_neg (by first | decide | simp), Int.add_zero] at hv
                have HV := hide hv
                clear hv
                go_wp2_with (first
                  | (go_at_call 90; (with_reducible refine (CN _).mono ?_); rintro e w4 ⟨rfl, b4⟩; have l4 := Nat.lt_of_lt_of_le ql b4.size; have q0_4 := cb b4 ql q0; have q1_4 := cb b4 ql q1; have qf0_4 := fb b4 ql qf0; have qf1_4 := fb b4 ql qf1)
                  | (go_at_call 94; (with_reducible refine (CH _).mono ?_); rintro e w6 ⟨rfl, b6⟩))
                go_ret
                refine ⟨ret_i64 HV.out, ?_⟩
                repeat (first | exact HBx | with_reducible refine ba ?_ _ | with_reducible refine bs ?_ (by omega) _ | with_reducible refine bd ?_ | (with_reducible refine bt ?_ (by assumption)))
              · have CH := hold_any (Q + 1) false (by omega) (by omega)
                rw [if_pos (by decide)] at hv
                have HV := hide hv
                clear hv
                go_wp2_with (first
                  | (go_at_call 90; (with_reducible refine (CN _).mono ?_); rintro e w4 ⟨rfl, b4⟩; have l4 := Nat.lt_of_lt_of_le ql b4.size; have q0_4 := cb b4 ql q0; have q1_4 := cb b4 ql q1; have qf0_4 := fb b4 ql qf0; have qf1_4 := fb b4 ql qf1)
                  | (go_at_call 93; (with_reducible refine (CP _).mono ?_); rintro e w5 ⟨rfl, b5⟩; have l5 := Nat.lt_of_lt_of_le l4 b5.size; have q0_5 := cb b5 l4 q0_4; have q1_5 := cb b5 l4 q1_4; have qf0_5 := fb b5 l4 qf0_4; have qf1_5 := fb b5 l4 qf1_4)
                  | (go_at_call 94; (with_reducible refine (CH _).mono ?_); rintro e w6 ⟨rfl, b6⟩))
                go_ret
                refine ⟨ret_i64 HV.out, ?_⟩
                repeat (first | exact HBx | with_reducible refine ba ?_ _ | with_reducible refine bs ?_ (by omega) _ | with_reducible refine bd ?_ | (with_reducible refine bt ?_ (by assumption)))
              · have CH := hold_any (Q + 1) true (by omega) (by omega)
                rw [if_pos (by decide)] at hv
                have HV := hide hv
                clear hv
                go_wp2_with (first
                  | (go_at_call 90; (with_reducible refine (CN _).mono ?_); rintro e w4 ⟨rfl, b4⟩; have l4 := Nat.lt_of_lt_of_le ql b4.size; have q0_4 := cb b4 ql q0; have q1_4 := cb b4 ql q1; have qf0_4 := fb b4 ql qf0; have qf1_4 := fb b4 ql qf1)
                  | (go_at_call 93; (with_reducible refine (CP _).mono ?_); rintro e w5 ⟨rfl, b5⟩; have l5 := Nat.lt_of_lt_of_le l4 b5.size; have q0_5 := cb b5 l4 q0_4; have q1_5 := cb b5 l4 q1_4; have qf0_5 := fb b5 l4 qf0_4; have qf1_5 := fb b5 l4 qf1_4)
                  | (go_at_call 94; (with_reducible refine (CH _).mono ?_); rintro e w6 ⟨rfl, b6⟩))
                go_ret
                refine ⟨ret_i64 HV.out, ?_⟩
                repeat (first | exact HBx | with_reducible refine ba ?_ _ | with_reducible refine bs ?_ (by omega) _ | with_reducible refine bd ?_ | (with_reducible refine bt ?_ (by assumption)))
            · have hb0 : bitI P N = 0 := by have := bitI0 P N; have := bitI1 P N; omega
              rw [hb0] at CN
              have eu : upB P N s = (false && (someB P N || !s)) := by unfold upB; rw [hb0]; rfl
              have hv := HV.out
              rw [eu] at hv
              clear HV eu hb hb0
              generalize someB P N = m at *
              cases s
              · have CH := hold_any Q false (by omega) (by omega)
                rw [if_neg (by first | decide | simp), Int.add_zero] at hv
                have HV := hide hv
                clear hv
                go_wp2_with (first
                  | (go_at_call 90; (with_reducible refine (CN _).mono ?_); rintro e w4 ⟨rfl, b4⟩; have l4 := Nat.lt_of_lt_of_le ql b4.size; have q0_4 := cb b4 ql q0; have q1_4 := cb b4 ql q1; have qf0_4 := fb b4 ql qf0; have qf1_4 := fb b4 ql qf1)
                  | (go_at_call 94; (with_reducible refine (CH _).mono ?_); rintro e w6 ⟨rfl, b6⟩))
                go_ret
                refine ⟨ret_i64 HV.out, ?_⟩
                repeat (first | exact HBx | with_reducible refine ba ?_ _ | with_reducible refine bs ?_ (by omega) _ | with_reducible refine bd ?_ | (with_reducible refine bt ?_ (by assumption)))
              · have CH := hold_any Q true (by omega) (by omega)
                rw [if_neg (by first | decide | simp), Int.add_zero] at hv
                have HV := hide hv
                clear hv
                go_wp2_with (first
                  | (go_at_call 90; (with_reducible refine (CN _).mono ?_); rintro e w4 ⟨rfl, b4⟩; have l4 := Nat.lt_of_lt_of_le ql b4.size; have q0_4 := cb b4 ql q0; have q1_4 := cb b4 ql q1; have qf0_4 := fb b4 ql qf0; have qf1_4 := fb b4 ql qf1)
                  | (go_at_call 94; (with_reducible refine (CH _).mono ?_); rintro e w6 ⟨rfl, b6⟩))
                go_ret
                refine ⟨ret_i64 HV.out, ?_⟩
                repeat (first | exact HBx | with_reducible refine ba ?_ _ | with_reducible refine bs ?_ (by omega) _ | with_reducible refine bd ?_ | (with_reducible refine bt ?_ (by assumption)))
end Go.Proofs.YtaafhjngnjjcmaaGreatDoor

/- The law on long products, divided by numbers and by powers of two. -/
namespace Go.Proofs.YtaafhjngnjjcmaaGreatDoor
open Go.RowKit


theorem sign_mul (a b : Int) : a * b = signI (absI a * absI b) (decide (a < 0) != decide (b < 0)) := by
  obtain ⟨m1, m2, m3, m4⟩ := mul_signs a b
  unfold signI
  by_cases ha : a < 0 <;> by_cases hb : b < 0
  · rw [m1 ha hb, if_neg (by simp [ha, hb])]
  · rw [m2 ha (by omega), if_pos (by simp [ha, hb])]
  · rw [m3 (by omega) hb, if_pos (by simp [ha, hb])]
  · rw [m4 (by omega) (by omega), if_neg (by simp [ha, hb])]
theorem refmulshift_any (a b n : Int) (h0 : -9223372036854775808 ≤ a) (h1 : a ≤ 9223372036854775807) (k0 : -9223372036854775808 ≤ b) (k1 : b ≤ 9223372036854775807) (w : World) :
    Calls Tryz.prog 190 #[.int .i64 a, .int .i64 b, .int .i64 n] w fun e w' => e = .returned (.int .i64 (mulShiftF a b n)) ∧ Below w.heap.size w w' := by
  by_cases hg : 127 < n
  · rw [show mulShiftF a b n = 0 from if_pos hg]
    exact refmulshift_great a b n hg w
  by_cases hs : n ≤ 0
  · rw [show mulShiftF a b n = holdI (a * b) from (if_neg hg).trans (if_pos hs), sign_mul a b]
    exact refmulshift_small a b n _ _ rfl rfl h0 h1 k0 k1 hs w
  obtain ⟨N, rfl⟩ : ∃ N : Nat, n = (N : Int) + 1 := ⟨n.toNat - 1, by omega⟩
  refine refmulshift_mid a b _ _ N _ ?_ rfl rfl h0 h1 k0 k1 (by omega) w
  rw [← shift_up, ← sign_mul]
  unfold mulShiftF
  rw [if_neg hg, if_neg hs, show ((N : Int) + 1).toNat = N + 1 by omega]
theorem near_bool {a b d : Int} (hd : d ≠ 0) (s : Bool) (hs : ((decide (a < 0) != decide (b < 0)) != decide (d < 0)) = s) :
    nearQ (a * b) d = if s = true then -(absI a * absI b / absI d + if absI d < 2 * (absI a * absI b % absI d) then 1 else 0) else absI a * absI b / absI d + if absI d ≤ 2 * (absI a * absI b % absI d) then 1 else 0 := by
  subst hs
  rw [sign_mul a b]
  generalize absI a * absI b = P
  generalize (decide (a < 0) != decide (b < 0)) = t
  have hp : 0 < absI d := by unfold absI; split <;> omega
  unfold nearQ
  by_cases h : d < 0
  · have e : absI d = -d := absI_neg h
    rw [if_pos h, ← e]
    cases t
    · rw [if_pos (by simp [h])]; exact near_below hp
    · rw [if_neg (by simp [h])]
      show (2 * (- -P) + absI d) / (2 * absI d) = _
      rw [Int.neg_neg]; exact near_up hp
  · have e : absI d = d := absI_pos (by omega)
    rw [if_neg h, e]
    rw [e] at hp
    cases t
    · rw [if_neg (by simp [h])]; exact near_up hp
    · rw [if_pos (by simp [h])]; exact near_below hp
theorem nearest_to (x d v : Int) (s : Bool) (hv : holdI (if s = true then -(x / d + if d < 2 * (x % d) then 1 else 0) else x / d + if d ≤ 2 * (x % d) then 1 else 0) = v) (h0 : 0 ≤ x) (h1 : x < 170141183460469231731687303715884105728) (d0 : 0 < d) (d1 : d < 18446744073709551616) (w : World) :
    Calls Tryz.prog 151 #[.agg #[.int .u64 (hi x), .int .u64 (lo x)], .int .u64 d, .bool s] w fun e w' => e = .returned (.int .i64 v) ∧ Below w.heap.size w w' := by
  subst hv
  cases s
  · rw [if_neg (by decide)]; exact near_false x d h0 h1 d0 d1 w
  · rw [if_pos rfl]; exact near_true x d h0 h1 d0 d1 w
set_option maxHeartbeats 1000000 in
theorem refmuldiv_any (a b d : Int) (h0 : -9223372036854775808 ≤ a) (h1 : a ≤ 9223372036854775807) (k0 : -9223372036854775808 ≤ b) (k1 : b ≤ 9223372036854775807) (d0 : -9223372036854775808 ≤ d) (d1 : d ≤ 9223372036854775807) (w : World) :
    Calls Tryz.prog 127 #[.int .i64 a, .int .i64 b, .int .i64 d] w fun e w' => e = .returned (.int .i64 (divF (a * b) d)) ∧ Below w.heap.size w w' := by
  by_cases hz : d = 0
  · subst hz
    rw [divF_zero]
    go_enter Tryz.func127, Tryz.ntmps127
    go_wp2
    go_ret
    exact ⟨rfl, Below.refl _ _⟩
  have dz : (d == 0) = false := beq_eq_false_iff_ne.2 hz
  rw [divF_of hz]
  have NB := near_bool (a := a) (b := b) hz _ rfl
  have CA := refsize_any a h0 h1
  have CB := refsize_any b k0 k1
  have CS := refsize_any d d0 d1
  have a1 : absI a ≤ 9223372036854775808 := absI1 h0 (by omega)
  have b1 : absI b ≤ 9223372036854775808 := absI1 k0 (by omega)
  have hp : 0 < absI d := by unfold absI; split <;> omega
  have hq : absI d ≤ 9223372036854775808 := absI1 d0 (by omega)
  have CT := times_to (absI a) (absI b) _ rfl (absI0 a) (by omega) (absI0 b) (by omega)
  have pp := abs_mul_le h0 h1 k0 k1
  generalize nearQ (a * b) d = V at *
  generalize absI a * absI b = P at *
  generalize absI d = D at *
  have NB2 := hide NB
  clear NB
  obtain ⟨P0, P1⟩ := pp
  cases hta : decide (a < 0) <;> cases htb : decide (b < 0) <;> cases htd : decide (d < 0)
  all_goals
    have nb := NB2.out
    rw [hta, htb, htd] at nb
    clear NB2
    first | (change V = if false = true then _ else _ at nb; have CN := nearest_to P D (holdI V) false (by rw [nb]) P0 (by omega) hp (by omega)) | (change V = if true = true then _ else _ at nb; have CN := nearest_to P D (holdI V) true (by rw [nb]) P0 (by omega) hp (by omega))
    clear nb hz hp hq P0 P1 a1 b1
    go_enter Tryz.func127, Tryz.ntmps127
    go_wp2_with (first
      | (go_at_call 89; (with_reducible refine (CA _).mono ?_); rintro e w' ⟨rfl, rfl⟩)
      | (go_at_call 89; (with_reducible refine (CB _).mono ?_); rintro e w' ⟨rfl, rfl⟩)
      | (go_at_call 150; (with_reducible refine (CT _).mono ?_); rintro e w1 ⟨rfl, b1⟩))
    have n0 := new0L w1 (.int .u64 (hi P)) (.int .u64 (lo P)) 141
    have n1 := new1L w1 (.int .u64 (hi P)) (.int .u64 (lo P)) 141
    have n2 := new_ltL w1 (.cells #[.int .u64 (hi P), .int .u64 (lo P)] 141)
    go_region_held3 (fun w' => w'.cell? ⟨w1.heap.size, 0, none⟩ = some (.int .u64 (hi P)) ∧ w'.cell? ⟨w1.heap.size, 1, none⟩ = some (.int .u64 (lo P)))
      (first | exact ⟨n0, n1⟩ | exact ⟨y0, y1⟩)
      (first
        | (go_at_call 89; (with_reducible refine (CS _).mono ?_); rintro e w' ⟨rfl, rfl⟩)
        | (go_at_call 151; (with_reducible refine (CN _).mono ?_); rintro e w2 ⟨rfl, b2⟩; have y0 := cb b2 n2 n0; have y1 := cb b2 n2 n1))
    all_goals go_wp2
    all_goals go_ret
    all_goals refine ⟨rfl, ?_⟩
    all_goals (repeat (first | exact Below.refl _ _ | with_reducible refine ba ?_ _ | with_reducible refine bs ?_ (by omega) _ | with_reducible refine bd ?_ | (with_reducible refine bt ?_ (by assumption))))
end Go.Proofs.YtaafhjngnjjcmaaGreatDoor
