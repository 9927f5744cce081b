/- Parts, joined. -/
import Derived.Test.YtdpkigdfhfippaaGreatDoorJ05
import Derived.Test.YtdpkigdfhfippaaGreatDoorJ04
import Derived.Deep.DeepCutAuto
/- A number of 128 bits that lies in a block of the call's own: what calls, stores and new blocks leave of it. -/
namespace Go.Proofs.YtdpkigdfhfippaaGreatDoor
open Go.RowKit


structure BigAt (w : World) (b : Nat) (X : Int) : Prop where
  c0 : w.cell? ⟨b, 0, none⟩ = some (.int .u64 (hi X))
  c1 : w.cell? ⟨b, 1, none⟩ = some (.int .u64 (lo X))
  f0 : w.frozen? ⟨b, 0, none⟩ = false
  f1 : w.frozen? ⟨b, 1, none⟩ = false
  lt : b < w.heap.size
theorem BigAt.below {w w1 : World} {b : Nat} {X : Int} (h : BigAt w b X) (hb : Below w.heap.size w w1) : BigAt w1 b X :=
  ⟨cb hb h.lt h.c0, cb hb h.lt h.c1, fb hb h.lt h.f0, fb hb h.lt h.f1, Nat.lt_of_lt_of_le h.lt hb.size⟩
theorem BigAt.drew {w : World} {b : Nat} {X : Int} (h : BigAt w b X) : BigAt w.drew b X := ⟨h.c0, h.c1, h.f0, h.f1, h.lt⟩
theorem BigAt.alloc {w : World} {b : Nat} {X : Int} (h : BigAt w b X) (o : Obj) : BigAt (w.alloc o) b X :=
  ⟨ca h.lt h.c0, ca h.lt h.c1, fa h.lt h.f0, fa h.lt h.f1, by have := h.lt; simp; omega⟩
theorem BigAt.new (w : World) {h l X : Int} (eh : h = hi X) (el : l = lo X) (t : TypeId) : BigAt (w.alloc (.cells #[.int .u64 h, .int .u64 l] t)) w.heap.size X := by
  subst eh; subst el
  exact ⟨by simp, by simp, by simp, by simp, by simp⟩
theorem BigAt.set {w : World} {b : Nat} {X : Int} (X' : Int) (h : BigAt w b X) : BigAt ((w.setCell ⟨b, 0, none⟩ (.int .u64 (hi X'))).setCell ⟨b, 1, none⟩ (.int .u64 (lo X'))) b X' :=
  ⟨cs (by omega) (cw h.c0), cw (cs (by omega) h.c1), by simp [h.f0], by simp [h.f1], by simpa [World.setCell] using h.lt⟩
theorem BigAt.far {w : World} {b b' o o' : Nat} {X : Int} {u v : Value} (h : BigAt w b X) (hne : b' ≠ b) : BigAt ((w.setCell ⟨b', o, none⟩ u).setCell ⟨b', o', none⟩ v) b X :=
  ⟨cs (by omega) (cs (by omega) h.c0), cs (by omega) (cs (by omega) h.c1), by simp [h.f0], by simp [h.f1], by simpa [World.setCell] using h.lt⟩
/-! ### The plain arithmetic of a shift -/
theorem near_pow (x : Int) (m : Nat) : nearQ x (2 ^ (m + 1)) = (x / 2 ^ m + 1) / 2 := by
  have p := pow2_pos m
  have e : (2 : Int) ^ (m + 1) = 2 * 2 ^ m := by rw [Int.pow_succ, Int.mul_comm]
  unfold nearQ
  rw [if_neg (by omega), e, ← Int.mul_add, Int.mul_ediv_mul_of_pos _ _ (by decide), Int.mul_comm 2 (2 ^ m), ← Int.ediv_ediv_of_nonneg (Int.le_of_lt p), Int.add_ediv_of_dvd_right (Int.dvd_refl _), Int.ediv_self (Int.ne_of_gt p)]
/-- What is left of a number when its bits from n to i are taken away. -/
def restI (M : Int) (n i : Nat) : Int := M % 2 ^ n + 2 ^ i * (M / 2 ^ i)
theorem rest_start (M : Int) (n : Nat) : restI M n n = M := by unfold restI; rw [Int.add_comm]; exact Int.mul_ediv_add_emod M (2 ^ n)
theorem rest_end {M : Int} (n : Nat) (h0 : 0 ≤ M) (h1 : M < 340282366920938463463374607431768211456) : restI M n 128 = M % 2 ^ n := by
  unfold restI; rw [div_pow_all h0 h1, Int.mul_zero, Int.add_zero]
theorem rest_step (M : Int) (n i : Nat) : restI M n i = restI M n (i + 1) + 2 ^ i * bitI M i := by
  unfold restI
  have e : (2 : Int) ^ (i + 1) = 2 ^ i * 2 := Int.pow_succ _ _
  rw [half_pow M i, Int.mul_add, e]
  rw [show (2 : Int) ^ i * (2 * (M / (2 ^ i * 2))) = 2 ^ i * 2 * (M / (2 ^ i * 2)) by rw [Int.mul_assoc]]
  omega
theorem rest_in2 {M : Int} (n i : Nat) (h0 : 0 ≤ M) : 0 ≤ restI M n i := by
  unfold restI
  have := Int.emod_nonneg M (Int.ne_of_gt (pow2_pos n))
  have := Int.mul_nonneg (Int.le_of_lt (pow2_pos i)) (Int.ediv_nonneg h0 (Int.le_of_lt (pow2_pos i)))
  omega
theorem rest_le {M : Int} (n i : Nat) (h0 : 0 ≤ M) : restI M n i ≤ 2 * M := by
  unfold restI
  have e := Int.mul_ediv_add_emod M (2 ^ i)
  have r := Int.emod_nonneg M (Int.ne_of_gt (pow2_pos i))
  have a : M % 2 ^ n ≤ M := by
    have e2 := Int.mul_ediv_add_emod M (2 ^ n)
    have := Int.mul_nonneg (Int.le_of_lt (pow2_pos n)) (Int.ediv_nonneg h0 (Int.le_of_lt (pow2_pos n)))
    omega
  omega
theorem rest_bit {M : Int} (n i : Nat) (h0 : 0 ≤ M) (h : bitI M i = 1) : 2 ^ i ≤ restI M n i ∧ restI M n i - 2 ^ i = restI M n (i + 1) := by
  have e := rest_step M n i
  rw [h, Int.mul_one] at e
  have := rest_in2 n (i + 1) h0
  omega
/-- What a shift comes to. -/
theorem shift_res {x M : Int} {N : Nat} (hM : absI x = M) (h0 : -9223372036854775808 ≤ x) (h1 : x ≤ 9223372036854775807) (hN : N ≤ 63) :
    (0 ≤ x → shiftF x ((N : Int) + 1) = holdI (M / 2 ^ (N + 1) + if 2 ^ N ≤ M % 2 ^ (N + 1) then 1 else 0)) ∧
    (x < 0 → shiftF x ((N : Int) + 1) = holdI (-(M / 2 ^ (N + 1) + if 2 ^ N < M % 2 ^ (N + 1) then 1 else 0))) := by
  have hb := pow2_pos (N + 1)
  have ee : (2 : Int) ^ (N + 1) = 2 * 2 ^ N := by rw [Int.pow_succ, Int.mul_comm]
  by_cases hs : N ≤ 62
  · have e0 : shiftF x ((N : Int) + 1) = nearQ x (2 ^ (N + 1)) := by
      rw [near_pow]; unfold shiftF; rw [if_neg (by omega), if_neg (by omega)]
      have : ((N : Int) + 1).toNat - 1 = N := by omega
      rw [this]
    have hin := shift_in N h0 h1
    rw [← near_pow] at hin
    refine ⟨fun h => ?_, fun h => ?_⟩
    · have e1 : nearQ x (2 ^ (N + 1)) = M / 2 ^ (N + 1) + if 2 ^ N ≤ M % 2 ^ (N + 1) then 1 else 0 := by
        rw [absI_pos h] at hM
        subst hM
        unfold nearQ
        rw [if_neg (by omega), near_up hb]
        congr 1
        by_cases c : (2 : Int) ^ N ≤ x % 2 ^ (N + 1)
        · rw [if_pos c, if_pos (by omega)]
        · rw [if_neg c, if_neg (by omega)]
      rw [e0, ← e1, holdI_in hin.1 hin.2]
    · have e1 : nearQ x (2 ^ (N + 1)) = -(M / 2 ^ (N + 1) + if 2 ^ N < M % 2 ^ (N + 1) then 1 else 0) := by
        rw [absI_neg h] at hM
        obtain rfl : x = -M := by omega
        unfold nearQ
        rw [if_neg (by omega), near_below hb]
        congr 2
        by_cases c : (2 : Int) ^ N < M % 2 ^ (N + 1)
        · rw [if_pos c, if_pos (by omega)]
        · rw [if_neg c, if_neg (by omega)]
      rw [e0, ← e1, holdI_in hin.1 hin.2]
  · obtain rfl : N = 63 := by omega
    have M0 : 0 ≤ M := hM ▸ absI0 x
    have M1 : M ≤ 9223372036854775808 := hM ▸ absI1 h0 (by omega)
    have p64 : (2 : Int) ^ (63 + 1) = 18446744073709551616 := by decide
    have p63 : (2 : Int) ^ 63 = 9223372036854775808 := by decide
    have e0 : shiftF x (((63 : Nat) : Int) + 1) = 0 := by unfold shiftF; rw [if_neg (by omega), if_pos (by omega)]
    rw [e0, p64, p63, Int.ediv_eq_zero_of_lt M0 (by omega), Int.emod_eq_of_lt M0 (by omega)]
    refine ⟨fun h => ?_, fun h => ?_⟩
    · rw [absI_pos h] at hM
      rw [if_neg (by omega)]; decide
    · rw [if_neg (by omega)]; decide
theorem pow2_lt {i : Nat} (h : i ≤ 127) : (2 : Int) ^ i ≤ 170141183460469231731687303715884105728 := by
  have : (2 : Int) ^ i ≤ 2 ^ 127 := by exact_mod_cast Nat.pow_le_pow_right (by decide) h
  simpa using this
theorem pow2_lt6 {i : Nat} (h : i ≤ 126) : (2 : Int) ^ i < 170141183460469231731687303715884105728 := by
  have : (2 : Int) ^ i ≤ 2 ^ 126 := by exact_mod_cast Nat.pow_le_pow_right (by decide) h
  have e : (2 : Int) ^ 126 = 85070591730234615865843651857942052864 := by decide
  omega
theorem pow2_succ (i : Nat) : (2 : Int) ^ (i + 1) = 2 * 2 ^ i := by rw [Int.pow_succ, Int.mul_comm]
end Go.Proofs.YtdpkigdfhfippaaGreatDoor

/- The document's shift, rounded. -/
namespace Go.Proofs.YtdpkigdfhfippaaGreatDoor
open Go.RowKit


/-- Three numbers in blocks of the call's own; all else is as it was. -/
structure ShSt (w wq : World) (a b c : Nat) (X Y Z : Int) : Prop where
  x : BigAt wq a X
  y : BigAt wq b Y
  z : BigAt wq c Z
  hb : Below w.heap.size w wq
theorem ShSt.below {w wq w1 : World} {a b c : Nat} {X Y Z : Int} (h : ShSt w wq a b c X Y Z) (hb : Below wq.heap.size wq w1) : ShSt w w1 a b c X Y Z :=
  ⟨h.x.below hb, h.y.below hb, h.z.below hb, bt h.hb hb⟩
theorem ShSt.drew {w wq : World} {a b c : Nat} {X Y Z : Int} (h : ShSt w wq a b c X Y Z) : ShSt w wq.drew a b c X Y Z := ⟨h.x.drew, h.y.drew, h.z.drew, h.hb.drew⟩
theorem ShSt.alloc {w wq : World} {a b c : Nat} {X Y Z : Int} (h : ShSt w wq a b c X Y Z) (o : Obj) : ShSt w (wq.alloc o) a b c X Y Z := ⟨h.x.alloc o, h.y.alloc o, h.z.alloc o, ba h.hb o⟩
theorem ShSt.setZ {w wq : World} {a b c : Nat} {X Y Z : Int} (Z' : Int) (h : ShSt w wq a b c X Y Z) (hc : w.heap.size ≤ c) (h1 : a ≠ c) (h2 : b ≠ c) :
    ShSt w ((wq.setCell ⟨c, 0, none⟩ (.int .u64 (hi Z'))).setCell ⟨c, 1, none⟩ (.int .u64 (lo Z'))) a b c X Y Z' :=
  ⟨h.x.far (Ne.symm h1), h.y.far (Ne.symm h2), h.z.set Z', bs (bs h.hb hc _) hc _⟩
theorem ShSt.far {w wq : World} {a b c d o o' : Nat} {u v : Value} {X Y Z : Int} (h : ShSt w wq a b c X Y Z) (hd : w.heap.size ≤ d) (h1 : a ≠ d) (h2 : b ≠ d) (h3 : c ≠ d) :
    ShSt w ((wq.setCell ⟨d, o, none⟩ u).setCell ⟨d, o', none⟩ v) a b c X Y Z :=
  ⟨h.x.far (Ne.symm h1), h.y.far (Ne.symm h2), h.z.far (Ne.symm h3), bs (bs h.hb hd _) hd _⟩
theorem new_lt' (w : World) (o : Obj) : w.heap.size < (w.alloc o).heap.size := by simp
theorem ShSt.zero {w wr : World} {N : Nat} {M : Int} {t : TypeId} (g : BigAt wr w.heap.size (2 ^ N)) (hb : Below w.heap.size w wr) (M0 : 0 ≤ M) (M1 : M < 18446744073709551616) :
    ShSt w ((wr.alloc (.cells #[.int .u64 0, .int .u64 M] t)).alloc (.cells #[.int .u64 0, .int .u64 0] t)) w.heap.size wr.heap.size (wr.heap.size + 1) (2 ^ N) M (M / 2 ^ 128) := by
  refine ⟨(g.alloc _).alloc _, (BigAt.new wr (hiz _ M0 M1) (loz _ M0 M1) _).alloc _, ?_, ba (ba hb _) _⟩
  rw [div_pow_all M0 (by omega)]
  have h := BigAt.new (wr.alloc (.cells #[.int .u64 0, .int .u64 M] t)) (h := 0) (l := 0) (X := 0) rfl rfl t
  simpa using h
theorem refshift_small (x n : Int) (h : n < 1) (w : World) :
    Calls Tryz.prog 79 #[.int .i64 x, .int .i64 n] w fun e w' => e = .returned (.int .i64 x) ∧ w = w' := by
  go_enter Tryz.func79, Tryz.ntmps79
  go_wp2
  go_ret
  exact ⟨rfl, rfl⟩
theorem refshift_great (x n : Int) (h : 64 < n) (w : World) :
    Calls Tryz.prog 79 #[.int .i64 x, .int .i64 n] w fun e w' => e = .returned (.int .i64 0) ∧ w = w' := by
  go_enter Tryz.func79, Tryz.ntmps79
  go_wp2
  go_ret
  exact ⟨rfl, rfl⟩
set_option maxRecDepth 100000 in
set_option maxHeartbeats 4000000 in
theorem refshift_mid (x M : Int) (N : Nat) (hM : absI x = M) (h0 : -9223372036854775808 ≤ x) (h1 : x ≤ 9223372036854775807) (hN : N ≤ 63) (w : World) :
    Calls Tryz.prog 79 #[.int .i64 x, .int .i64 ((N : Int) + 1)] w fun e w' =>
      e = .returned (.int .i64 (shiftF x ((N : Int) + 1))) ∧ Below w.heap.size w w' := by
  have CS := refsize_to x M hM h0 h1
  have M0 : 0 ≤ M := hM ▸ absI0 x
  have M1 : M ≤ 9223372036854775808 := hM ▸ absI1 h0 (by omega)
  have HM := hide hM
  clear hM
  have t1 : decide ((N : Int) + 1 < 1) = false := decide_eq_false (by omega)
  have t2 : decide ((64 : Int) < (N : Int) + 1) = false := decide_eq_false (by omega)
  go_enter Tryz.func79, Tryz.ntmps79
  go_wp2
  go_loopw [21] (fun i wr => ∃ j : Nat, j ≤ N ∧ i = .int .i64 j ∧ BigAt wr w.heap.size (2 ^ j) ∧ Below w.heap.size w wr) (fun i _ => N - (intOf i).toNat)
  case atStart => exact ⟨0, by omega, rfl, BigAt.new w (h := 0) (l := 1) (X := 2 ^ 0) rfl rfl _, below1 _ _⟩
  case round =>
    obtain ⟨j, hj, rfl, g, hb⟩ := hrel
    by_cases hlt : j < N
    · have G := hide g
      have HB := hide hb
      obtain ⟨c0, c1, f0, f1, lt⟩ := g
      clear hb
      have CT := twice_zero (2 ^ j) (Int.le_of_lt (pow2_pos j)) (pow2_lt6 (by omega))
      rw [← pow2_succ] at CT
      go_wp2_with (first
        | (go_at_call 105; (with_reducible refine (CT _).mono ?_); rintro e w3 ⟨rfl, hb3⟩; have q3 := cb hb3 lt c0; have q4 := cb hb3 lt c1; have t3 := fb hb3 lt f0; have t4 := fb hb3 lt f1))
      go_roundw
      case rel => exact ⟨j + 1, by omega, by go_num, (G.out.below hb3).set _, ((HB.out.trans (hb3.mono (by have := HB.out.size; omega))).setCell (by show _ ≤ w.heap.size; omega) _).setCell (by show _ ≤ w.heap.size; omega) _⟩
      case measure => simp [intOf]; omega
    · obtain rfl : N = j := by omega
      clear hj hlt
      have G := hide g
      have HB := hide hb
      have zs := hb.size
      clear g hb
      go_wp2_with (first
        | (go_at_call 84; (with_reducible refine (CS _).mono ?_); rintro e w' ⟨rfl, rfl⟩))
      rename World => W1
      go_loopw [8] (fun i wq => ∃ j : Nat, N + 1 ≤ j ∧ j ≤ 128 ∧ i = .int .i64 ((j : Int) - 1) ∧ ShSt w wq w.heap.size W1.heap.size (W1.heap.size + 1) (2 ^ N) M (M / 2 ^ j)) (fun i _ => (intOf i + 1).toNat)
      case atStart => exact ⟨128, by omega, by omega, rfl, ShSt.zero G.out HB.out M0 (by omega)⟩
      case round =>
        obtain ⟨j, hj0, hj1, rfl, hst⟩ := hrel
        have lt0 := G.out.lt
        have ST := hide hst
        by_cases hlt : N + 1 < j
        · obtain ⟨k, rfl⟩ : ∃ k, j = k + 1 := ⟨j - 1, by omega⟩
          have ek : ((k + 1 : Nat) : Int) - 1 = (k : Int) := by omega
          rw [ek]
          clear ek
          have P0 : 0 ≤ M / 2 ^ (k + 1) := Int.ediv_nonneg M0 (Int.le_of_lt (pow2_pos _))
          have P1 := div_pow_half k M0 (show M < 340282366920938463463374607431768211456 by omega)
          have CB := bit_any M k M0 (by omega) (by omega)
          have CT := twice_any (M / 2 ^ (k + 1)) (bitI M k) P0 P1 (bitI0 M k) (bitI1 M k)
          rw [← half_pow] at CT
          obtain ⟨-, ⟨m0, m1, -, -, ml⟩, ⟨q0, q1, qf0, qf1, ql⟩, -⟩ := hst
          clear P0 P1 CS
          go_wp2
          go_region_with
            (first
              | (go_at_call 106; refine (CB _).mono ?_; rintro e w1 ⟨rfl, hb1⟩;
                  have s0 := cb hb1 ql q0;
                  have s1 := cb hb1 ql q1)
              | (go_at_call 105; refine (CT _).mono ?_; rintro e w2 ⟨rfl, hb2⟩;
                  have z1 := Nat.lt_of_lt_of_le ql hb1.size;
                  have s2 := cb hb2 z1 s0;
                  have s3 := cb hb2 z1 s1;
                  have t2 := fb hb2 z1 (fb hb1 ql qf0);
                  have t3 := fb hb2 z1 (fb hb1 ql qf1)))
          all_goals
            go_wp2
            go_roundw
            case rel => exact ⟨k, by omega, by omega, rfl, ((ST.out.drew.below hb1).below hb2).setZ _ (by omega) (by omega) (by omega)⟩
            case measure => simp [intOf]
        · obtain rfl : j = N + 1 := by omega
          have ek : ((N + 1 : Nat) : Int) - 1 = (N : Int) := by omega
          rw [ek]
          clear ek hj0 hj1 hlt
          obtain ⟨-, ⟨m0, m1, -, -, ml⟩, ⟨-, -, -, -, ql⟩, -⟩ := hst
          go_wp2
          rename World => W2
          have z2 : W2.heap.size < (W2.alloc (.cells #[.int .u64 (hi M), .int .u64 (lo M)] 133)).heap.size := new_lt' _ _
          go_loopw [10] (fun i wq => ∃ j : Nat, N + 1 ≤ j ∧ j ≤ 128 ∧ i = .int .i64 j ∧ ShSt w wq w.heap.size W1.heap.size (W1.heap.size + 1) (2 ^ N) M (M / 2 ^ (N + 1)) ∧ BigAt wq W2.heap.size (restI M (N + 1) j)) (fun i _ => 128 - (intOf i).toNat)
          case atStart => exact ⟨N + 1, by omega, by omega, by go_num, ST.out.alloc _, by rw [rest_start]; exact BigAt.new W2 rfl rfl _⟩
          case round =>
            obtain ⟨i, hi0, hi1, rfl, hst, hr⟩ := hrel
            have S3 := hide hst
            have R3 := hide hr
            obtain ⟨⟨p0, p1, -, -, pl⟩, ⟨m0, m1, -, -, ml⟩, ⟨q0, q1, qf0, qf1, ql⟩, hb⟩ := hst
            obtain ⟨r0, r1, rf0, rf1, rl⟩ := hr
            clear hb
            by_cases hlt : i < 128
            · have CB := bit_any M i M0 (by omega) hlt
              by_cases hbit : bitI M i = 1
              · rw [hbit] at CB
                have HB := hide hbit
                clear hbit
                go_wp2_with (first
                  | (go_at_call 106; (with_reducible refine (CB _).mono ?_); rintro e w4 ⟨rfl, b4⟩))
                have s4 := b4.size
                rename World => W4
                have CM := minus_any (restI M (N + 1) i) (2 ^ i) (Int.le_of_lt (pow2_pos i)) (rest_bit (N + 1) i M0 HB.out).1 (by have := rest_le (N + 1) i M0; omega)
                rw [(rest_bit (N + 1) i M0 HB.out).2] at CM
                have S4 := hide ((S3.out.below b4).alloc (.cells #[.int .u64 0, .int .u64 1] 133))
                have R4 := hide ((R3.out.below b4).alloc (.cells #[.int .u64 0, .int .u64 1] 133))
                have P4 := hide (BigAt.new W4 (h := 0) (l := 1) (X := 2 ^ 0) rfl rfl 133)
                clear p0 p1 m0 m1 q0 q1 qf0 qf1 r0 r1 rf0 rf1 CB
                go_loopw [52] (fun v wq => ∃ j : Nat, j ≤ i ∧ v = .int .i64 j ∧ ShSt w wq w.heap.size W1.heap.size (W1.heap.size + 1) (2 ^ N) M (M / 2 ^ (N + 1)) ∧ BigAt wq W2.heap.size (restI M (N + 1) i) ∧ BigAt wq W4.heap.size (2 ^ j)) (fun v _ => i - (intOf v).toNat)
                case atStart => exact ⟨0, by omega, rfl, S4.out, R4.out, P4.out⟩
                case round =>
                  obtain ⟨j, hj, rfl, hs5, hr5, hp5⟩ := hrel
                  have S5 := hide hs5
                  have R5 := hide hr5
                  have P5 := hide hp5
                  obtain ⟨a0, a1, af0, af1, al⟩ := hp5
                  obtain ⟨r0, r1, rf0, rf1, rl5⟩ := hr5
                  clear hs5
                  by_cases hji : j < i
                  · have CT := twice_zero (2 ^ j) (Int.le_of_lt (pow2_pos j)) (pow2_lt6 (by omega))
                    rw [← pow2_succ] at CT
                    go_wp2_with (first
                      | (go_at_call 105; (with_reducible refine (CT _).mono ?_); rintro e w5 ⟨rfl, b5⟩; have q3 := cb b5 al a0; have q4 := cb b5 al a1; have t3 := fb b5 al af0; have t4 := fb b5 al af1))
                    go_roundw
                    case rel => exact ⟨j + 1, by omega, by go_num, (S5.out.below b5).far (by omega) (by omega) (by omega) (by omega), (R5.out.below b5).far (by omega), (P5.out.below b5).set _⟩
                    case measure => simp [intOf]; omega
                  · obtain rfl : i = j := by omega
                    go_wp2_with (first
                      | (go_at_call 107; (with_reducible refine (CM _).mono ?_); rintro e w5 ⟨rfl, b5⟩; have q3 := cb b5 rl5 r0; have q4 := cb b5 rl5 r1; have t3 := fb b5 rl5 rf0; have t4 := fb b5 rl5 rf1))
                    go_roundw
                    case rel => exact ⟨i + 1, by omega, by omega, by go_num, (S5.out.below b5).far (by omega) (by omega) (by omega) (by omega), (R5.out.below b5).set _⟩
                    case measure => simp [intOf]; omega
              · have hb0 : bitI M i = 0 := by have := bitI0 M i; have := bitI1 M i; omega
                rw [hb0] at CB
                have HB := hide hb0
                clear hbit hb0
                go_wp2_with (first
                  | (go_at_call 106; (with_reducible refine (CB _).mono ?_); rintro e w4 ⟨rfl, b4⟩))
                go_roundw
                case rel => exact ⟨i + 1, by omega, by omega, by go_num, S3.out.below b4, by have e := rest_step M (N + 1) i; rw [HB.out, Int.mul_zero, Int.add_zero] at e; rw [← e]; exact R3.out.below b4⟩
                case measure => simp [intOf]; omega
            · obtain rfl : i = 128 := by omega
              rw [rest_end (N + 1) M0 (by omega)] at R3 r0 r1
              have RR := rest_in (x := M) (pow2_pos (N + 1))
              have hf := pow2_pos N
              have hf2 := pow2_lt (i := N) (by omega)
              have QQ := quo_le M0 (pow2_pos (N + 1))
              have RM : M % 2 ^ (N + 1) ≤ M := by
                have e2 := Int.mul_ediv_add_emod M (2 ^ (N + 1))
                have := Int.mul_nonneg (Int.le_of_lt (pow2_pos (N + 1))) (Int.ediv_nonneg M0 (Int.le_of_lt (pow2_pos (N + 1))))
                omega
              obtain ⟨res0, res1⟩ := shift_res HM.out h0 h1 hN
              obtain ⟨RR0, -⟩ := RR
              obtain ⟨QQ0, QQ1⟩ := QQ
              clear m0 m1 p0 p1 q0 q1 qf0 qf1 r0 r1 rf0 rf1 hlt CS hi0 hi1
              have P3 := S3.out.x
              have Q3 := S3.out.z
              obtain ⟨p0, p1, -, -, pl⟩ := P3
              obtain ⟨q0, q1, qf0, qf1, ql⟩ := Q3
              have R3' := R3.out
              obtain ⟨r0, r1, -, -, rl⟩ := R3'
              generalize (2 : Int) ^ N = hf' at *
              generalize M % 2 ^ (N + 1) = R at *
              generalize M / 2 ^ (N + 1) = Q at *
              by_cases hx : x < 0
              · by_cases c1 : hf' < R
                · have CL := less_any R hf' (by omega) (by omega) (by omega) (by omega)
                  rw [show decide (R < hf') = false from decide_eq_false (by omega)] at CL
                  have CK := less_any hf' R (by omega) (by omega) (by omega) (by omega)
                  rw [show decide (hf' < R) = true from decide_eq_true (by omega)] at CK
                  have CP := plus_one Q QQ0 (by omega)
                  have CH := hold_any (Q + 1) true (by omega) (by omega)
                  have da : decide (x < 0) = true := decide_eq_true (by omega)
                  have res := hide (res1 hx)
                  rw [if_pos c1] at res
                  clear res0 res1
                  go_wp2_with (first
                    | (go_at_call 108; (with_reducible refine (CL _).mono ?_); rintro e w5 ⟨rfl, b5⟩; have pl5 := Nat.lt_of_lt_of_le pl b5.size; have p0_5 := cb b5 pl p0; have p1_5 := cb b5 pl p1; have ql5 := Nat.lt_of_lt_of_le ql b5.size; have q0_5 := cb b5 ql q0; have q1_5 := cb b5 ql q1; have qf0_5 := fb b5 ql qf0; have qf1_5 := fb b5 ql qf1; have rl5 := Nat.lt_of_lt_of_le rl b5.size; have r0_5 := cb b5 rl r0; have r1_5 := cb b5 rl r1; have S5 := hide (S3.out.below b5))
                    | (go_at_call 108; (with_reducible refine (CK _).mono ?_); rintro e w6 ⟨rfl, b6⟩; have pl6 := Nat.lt_of_lt_of_le pl5 b6.size; have p0_6 := cb b6 pl5 p0_5; have p1_6 := cb b6 pl5 p1_5; have ql6 := Nat.lt_of_lt_of_le ql5 b6.size; have q0_6 := cb b6 ql5 q0_5; have q1_6 := cb b6 ql5 q1_5; have qf0_6 := fb b6 ql5 qf0_5; have qf1_6 := fb b6 ql5 qf1_5; have rl6 := Nat.lt_of_lt_of_le rl5 b6.size; have r0_6 := cb b6 rl5 r0_5; have r1_6 := cb b6 rl5 r1_5; have S6 := hide (S5.out.below b6))
                    | (go_at_call 103; (with_reducible refine (CP _).mono ?_); rintro e w7 ⟨rfl, b7⟩; have ql7 := Nat.lt_of_lt_of_le ql6 b7.size; have q0_7 := cb b7 ql6 q0_6; have q1_7 := cb b7 ql6 q1_6; have qf0_7 := fb b7 ql6 qf0_6; have qf1_7 := fb b7 ql6 qf1_6; have S7 := hide (ShSt.setZ (Q + 1) (S6.out.below b7) (by omega) (by omega) (by omega)); have q0_8 := S7.out.z.c0; have q1_8 := S7.out.z.c1)
                    | (go_at_call 104; (with_reducible refine (CH _).mono ?_); rintro e w9 ⟨rfl, b9⟩))
                  go_ret
                  exact ⟨ret_i64 (by rw [res.out]; simp [signI]), bt S7.out.hb b9⟩
                · by_cases c2 : hf' = R
                  · have c3 : R ≤ hf' := by omega
                    have c4 : hf' ≤ R := by omega
                    clear c2
                    have CL := less_any R hf' (by omega) (by omega) (by omega) (by omega)
                    rw [show decide (R < hf') = false from decide_eq_false (by omega)] at CL
                    have CK := less_any hf' R (by omega) (by omega) (by omega) (by omega)
                    rw [show decide (hf' < R) = false from decide_eq_false (by omega)] at CK
                    have CH := hold_any Q true (by omega) (by omega)
                    have da : decide (x < 0) = true := decide_eq_true (by omega)
                    have res := hide (res1 hx)
                    rw [if_neg c1] at res
                    clear res0 res1
                    go_wp2_with (first
                      | (go_at_call 108; (with_reducible refine (CL _).mono ?_); rintro e w5 ⟨rfl, b5⟩; have pl5 := Nat.lt_of_lt_of_le pl b5.size; have p0_5 := cb b5 pl p0; have p1_5 := cb b5 pl p1; have ql5 := Nat.lt_of_lt_of_le ql b5.size; have q0_5 := cb b5 ql q0; have q1_5 := cb b5 ql q1; have qf0_5 := fb b5 ql qf0; have qf1_5 := fb b5 ql qf1; have rl5 := Nat.lt_of_lt_of_le rl b5.size; have r0_5 := cb b5 rl r0; have r1_5 := cb b5 rl r1; have S5 := hide (S3.out.below b5))
                      | (go_at_call 108; (with_reducible refine (CK _).mono ?_); rintro e w6 ⟨rfl, b6⟩; have pl6 := Nat.lt_of_lt_of_le pl5 b6.size; have p0_6 := cb b6 pl5 p0_5; have p1_6 := cb b6 pl5 p1_5; have ql6 := Nat.lt_of_lt_of_le ql5 b6.size; have q0_6 := cb b6 ql5 q0_5; have q1_6 := cb b6 ql5 q1_5; have qf0_6 := fb b6 ql5 qf0_5; have qf1_6 := fb b6 ql5 qf1_5; have rl6 := Nat.lt_of_lt_of_le rl5 b6.size; have r0_6 := cb b6 rl5 r0_5; have r1_6 := cb b6 rl5 r1_5; have S6 := hide (S5.out.below b6))
                      | (go_at_call 104; (with_reducible refine (CH _).mono ?_); rintro e w9 ⟨rfl, b9⟩))
                    go_ret
                    exact ⟨ret_i64 (by rw [res.out]; simp [signI]), bt S6.out.hb b9⟩
                  · have CL := less_any R hf' (by omega) (by omega) (by omega) (by omega)
                    rw [show decide (R < hf') = true from decide_eq_true (by omega)] at CL
                    have CK := less_any hf' R (by omega) (by omega) (by omega) (by omega)
                    rw [show decide (hf' < R) = false from decide_eq_false (by omega)] at CK
                    have CH := hold_any Q true (by omega) (by omega)
                    have da : decide (x < 0) = true := decide_eq_true (by omega)
                    have res := hide (res1 hx)
                    rw [if_neg c1] at res
                    clear res0 res1
                    go_wp2_with (first
                      | (go_at_call 108; (with_reducible refine (CL _).mono ?_); rintro e w5 ⟨rfl, b5⟩; have pl5 := Nat.lt_of_lt_of_le pl b5.size; have p0_5 := cb b5 pl p0; have p1_5 := cb b5 pl p1; have ql5 := Nat.lt_of_lt_of_le ql b5.size; have q0_5 := cb b5 ql q0; have q1_5 := cb b5 ql q1; have qf0_5 := fb b5 ql qf0; have qf1_5 := fb b5 ql qf1; have rl5 := Nat.lt_of_lt_of_le rl b5.size; have r0_5 := cb b5 rl r0; have r1_5 := cb b5 rl r1; have S5 := hide (S3.out.below b5))
                      | (go_at_call 108; (with_reducible refine (CK _).mono ?_); rintro e w6 ⟨rfl, b6⟩; have pl6 := Nat.lt_of_lt_of_le pl5 b6.size; have p0_6 := cb b6 pl5 p0_5; have p1_6 := cb b6 pl5 p1_5; have ql6 := Nat.lt_of_lt_of_le ql5 b6.size; have q0_6 := cb b6 ql5 q0_5; have q1_6 := cb b6 ql5 q1_5; have qf0_6 := fb b6 ql5 qf0_5; have qf1_6 := fb b6 ql5 qf1_5; have rl6 := Nat.lt_of_lt_of_le rl5 b6.size; have r0_6 := cb b6 rl5 r0_5; have r1_6 := cb b6 rl5 r1_5; have S6 := hide (S5.out.below b6))
                      | (go_at_call 104; (with_reducible refine (CH _).mono ?_); rintro e w9 ⟨rfl, b9⟩))
                    go_ret
                    exact ⟨ret_i64 (by rw [res.out]; simp [signI]), bt S6.out.hb b9⟩
              · by_cases c1 : hf' ≤ R
                · have CL := less_any R hf' (by omega) (by omega) (by omega) (by omega)
                  rw [show decide (R < hf') = false from decide_eq_false (by omega)] at CL
                  have CP := plus_one Q QQ0 (by omega)
                  have CH := hold_any (Q + 1) false (by omega) (by omega)
                  have da : decide (x < 0) = false := decide_eq_false (by omega)
                  have res := hide (res0 (by omega))
                  rw [if_pos c1] at res
                  clear res0 res1
                  go_wp2_with (first
                    | (go_at_call 108; (with_reducible refine (CL _).mono ?_); rintro e w5 ⟨rfl, b5⟩; have pl5 := Nat.lt_of_lt_of_le pl b5.size; have p0_5 := cb b5 pl p0; have p1_5 := cb b5 pl p1; have ql5 := Nat.lt_of_lt_of_le ql b5.size; have q0_5 := cb b5 ql q0; have q1_5 := cb b5 ql q1; have qf0_5 := fb b5 ql qf0; have qf1_5 := fb b5 ql qf1; have rl5 := Nat.lt_of_lt_of_le rl b5.size; have r0_5 := cb b5 rl r0; have r1_5 := cb b5 rl r1; have S5 := hide (S3.out.below b5))
                    | (go_at_call 103; (with_reducible refine (CP _).mono ?_); rintro e w7 ⟨rfl, b7⟩; have ql7 := Nat.lt_of_lt_of_le ql5 b7.size; have q0_7 := cb b7 ql5 q0_5; have q1_7 := cb b7 ql5 q1_5; have qf0_7 := fb b7 ql5 qf0_5; have qf1_7 := fb b7 ql5 qf1_5; have S7 := hide (ShSt.setZ (Q + 1) (S5.out.below b7) (by omega) (by omega) (by omega)); have q0_8 := S7.out.z.c0; have q1_8 := S7.out.z.c1)
                    | (go_at_call 104; (with_reducible refine (CH _).mono ?_); rintro e w9 ⟨rfl, b9⟩))
                  go_ret
                  exact ⟨ret_i64 (by rw [res.out]; simp [signI]), bt S7.out.hb b9⟩
                · have CL := less_any R hf' (by omega) (by omega) (by omega) (by omega)
                  rw [show decide (R < hf') = true from decide_eq_true (by omega)] at CL
                  have CH := hold_any Q false (by omega) (by omega)
                  have da : decide (x < 0) = false := decide_eq_false (by omega)
                  have res := hide (res0 (by omega))
                  rw [if_neg c1] at res
                  clear res0 res1
                  go_wp2_with (first
                    | (go_at_call 108; (with_reducible refine (CL _).mono ?_); rintro e w5 ⟨rfl, b5⟩; have pl5 := Nat.lt_of_lt_of_le pl b5.size; have p0_5 := cb b5 pl p0; have p1_5 := cb b5 pl p1; have ql5 := Nat.lt_of_lt_of_le ql b5.size; have q0_5 := cb b5 ql q0; have q1_5 := cb b5 ql q1; have qf0_5 := fb b5 ql qf0; have qf1_5 := fb b5 ql qf1; have rl5 := Nat.lt_of_lt_of_le rl b5.size; have r0_5 := cb b5 rl r0; have r1_5 := cb b5 rl r1; have S5 := hide (S3.out.below b5))
                    | (go_at_call 104; (with_reducible refine (CH _).mono ?_); rintro e w9 ⟨rfl, b9⟩))
                  go_ret
                  exact ⟨ret_i64 (by rw [res.out]; simp [signI]), bt S5.out.hb b9⟩
end Go.Proofs.YtdpkigdfhfippaaGreatDoor
