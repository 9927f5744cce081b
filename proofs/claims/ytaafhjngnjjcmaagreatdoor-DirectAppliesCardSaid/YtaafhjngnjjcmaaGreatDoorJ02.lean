/- Parts, joined. -/
import Derived.Test.YtaafhjngnjjcmaaGreatDoorJ01
import Derived.Deep.RegionHeld3
import Derived.Deep.DeepCutAuto
/- Long products and quotients of the document's answers (layer 1): their loops. -/
namespace Go.Proofs.YtaafhjngnjjcmaaGreatDoor
open Go.RowKit


/-- A number of 128 bits lies in a block of its own, and may be written. -/
def At (w : World) (b : Nat) (x : Int) : Prop :=
  w.cell? ⟨b, 0, none⟩ = some (.int .u64 (hi x)) ∧ w.cell? ⟨b, 1, none⟩ = some (.int .u64 (lo x))
theorem cb {W w1 : World} {b o : Nat} {v : Value} (hb : Below W.heap.size W w1) (h : b < W.heap.size) (hc : W.cell? ⟨b, o, none⟩ = some v) : w1.cell? ⟨b, o, none⟩ = some v := (hb.cell (p := ⟨b, o, none⟩) h).trans hc
theorem fb {W w1 : World} {b o : Nat} (hb : Below W.heap.size W w1) (h : b < W.heap.size) (hc : W.frozen? ⟨b, o, none⟩ = false) : w1.frozen? ⟨b, o, none⟩ = false := (hb.frozen (p := ⟨b, o, none⟩) h).trans hc
theorem div_pow_half {x : Int} (k : Nat) (h0 : 0 ≤ x) (h1 : x < 340282366920938463463374607431768211456) : x / 2 ^ (k + 1) < 170141183460469231731687303715884105728 := by
  have e : x / 2 ^ (k + 1) = x / 2 / 2 ^ k := by
    have e2 : (2 : Int) ^ (k + 1) = 2 * 2 ^ k := by rw [Int.pow_succ, Int.mul_comm]
    rw [e2, Int.ediv_ediv_of_nonneg (by decide)]
  rw [e]
  exact div_pow_lt k (by omega) (by omega)
theorem div_pow_all {x : Int} (h0 : 0 ≤ x) (h1 : x < 340282366920938463463374607431768211456) : x / 2 ^ 128 = 0 :=
  Int.ediv_eq_zero_of_lt h0 (by simpa using h1)
theorem less_yes (x y h l : Int) (eh : h = hi y) (el : l = lo y) (hlt : x < y) (h0 : 0 ≤ x) (h1 : y < 340282366920938463463374607431768211456) (w : World) :
    Calls Tryz.prog 92 #[.agg #[.int .u64 (hi x), .int .u64 (lo x)], .agg #[.int .u64 h, .int .u64 l]] w fun e w' => e = .returned (.bool true) ∧ Below w.heap.size w w' := by
  subst eh; subst el
  refine (less_any x y h0 (by omega) (by omega) h1 w).mono fun e w' ⟨he, hb⟩ => ⟨?_, hb⟩
  rw [he, decide_eq_true hlt]
theorem less_no (x y h l : Int) (eh : h = hi y) (el : l = lo y) (hlt : y ≤ x) (h0 : 0 ≤ y) (h1 : x < 340282366920938463463374607431768211456) (w : World) :
    Calls Tryz.prog 92 #[.agg #[.int .u64 (hi x), .int .u64 (lo x)], .agg #[.int .u64 h, .int .u64 l]] w fun e w' => e = .returned (.bool false) ∧ Below w.heap.size w w' := by
  subst eh; subst el
  refine (less_any x y (by omega) h0 h1 (by omega) w).mono fun e w' ⟨he, hb⟩ => ⟨?_, hb⟩
  rw [he, decide_eq_false (by omega)]
theorem minus_low (x d : Int) (h0 : 0 ≤ d) (k0 : d ≤ x) (d1 : d < 18446744073709551616) (h1 : x < 340282366920938463463374607431768211456) (w : World) :
    Calls Tryz.prog 91 #[.agg #[.int .u64 (hi x), .int .u64 (lo x)], .agg #[.int .u64 0, .int .u64 d]] w fun e w' => e = .returned (.agg #[.int .u64 (hi (x - d)), .int .u64 (lo (x - d))]) ∧ Below w.heap.size w w' := by
  have h := minus_any x d h0 k0 h1 w
  rw [hi_small h0 d1, lo_small h0 d1] at h
  exact h
/-- What lies in memory at a round's head: the number, the quotient so far, the rest so far. -/
structure OverSt (w wr : World) (x Q R : Int) : Prop where
  x0 : wr.cell? ⟨w.heap.size, 0, none⟩ = some (.int .u64 (hi x))
  x1 : wr.cell? ⟨w.heap.size, 1, none⟩ = some (.int .u64 (lo x))
  q0 : wr.cell? ⟨w.heap.size + 1 + 1, 0, none⟩ = some (.int .u64 (hi Q))
  q1 : wr.cell? ⟨w.heap.size + 1 + 1, 1, none⟩ = some (.int .u64 (lo Q))
  r0 : wr.cell? ⟨w.heap.size + 1 + 1 + 1, 0, none⟩ = some (.int .u64 (hi R))
  r1 : wr.cell? ⟨w.heap.size + 1 + 1 + 1, 1, none⟩ = some (.int .u64 (lo R))
  o0 : ∃ v, wr.cell? ⟨w.heap.size + 1, 0, none⟩ = some v
  o1 : ∃ v, wr.cell? ⟨w.heap.size + 1, 1, none⟩ = some v
  f10 : wr.frozen? ⟨w.heap.size + 1, 0, none⟩ = false
  f11 : wr.frozen? ⟨w.heap.size + 1, 1, none⟩ = false
  f20 : wr.frozen? ⟨w.heap.size + 1 + 1, 0, none⟩ = false
  f21 : wr.frozen? ⟨w.heap.size + 1 + 1, 1, none⟩ = false
  f30 : wr.frozen? ⟨w.heap.size + 1 + 1 + 1, 0, none⟩ = false
  f31 : wr.frozen? ⟨w.heap.size + 1 + 1 + 1, 1, none⟩ = false
  hz : w.heap.size + 1 + 1 + 1 < wr.heap.size
  hb : Below w.heap.size w wr
/-- Behind a call that makes memory. -/
theorem OverSt.below {w wr w1 : World} {x Q R : Int} (h : OverSt w wr x Q R) (hb : Below wr.heap.size wr w1) : OverSt w w1 x Q R := by
  have hz := h.hz
  have hs := hb.size
  obtain ⟨v0, o0⟩ := h.o0
  obtain ⟨v1, o1⟩ := h.o1
  exact ⟨cb hb (by omega) h.x0, cb hb (by omega) h.x1, cb hb (by omega) h.q0, cb hb (by omega) h.q1, cb hb (by omega) h.r0, cb hb (by omega) h.r1, ⟨v0, cb hb (by omega) o0⟩, ⟨v1, cb hb (by omega) o1⟩,
    fb hb (by omega) h.f10, fb hb (by omega) h.f11, fb hb (by omega) h.f20, fb hb (by omega) h.f21, fb hb (by omega) h.f30, fb hb (by omega) h.f31, by omega, h.hb.trans (hb.mono (by omega))⟩
/-- Behind a draw. -/
theorem OverSt.drew {w wr : World} {x Q R : Int} (h : OverSt w wr x Q R) : OverSt w wr.drew x Q R :=
  ⟨h.x0, h.x1, h.q0, h.q1, h.r0, h.r1, h.o0, h.o1, h.f10, h.f11, h.f20, h.f21, h.f30, h.f31, h.hz, h.hb.drew⟩
theorem cs {w : World} {b o b' o' : Nat} {v u : Value} (h : b' ≠ b ∨ o' ≠ o) (hc : w.cell? ⟨b, o, none⟩ = some v) : (w.setCell ⟨b', o', none⟩ u).cell? ⟨b, o, none⟩ = some v := by
  have hne : (⟨b', o', none⟩ : Addr) ≠ ⟨b, o, none⟩ := by
    intro e
    injection e with e1 e2
    omega
  exact (World.cell?_setCell_other _ _ _ _ hne).trans hc
theorem cw {w : World} {b o : Nat} {v u : Value} (hc : w.cell? ⟨b, o, none⟩ = some v) : (w.setCell ⟨b, o, none⟩ u).cell? ⟨b, o, none⟩ = some u := by
  exact World.cell?_setCell_same' _ _ _ (by rw [hc]; rfl)
/-- The rest is written. -/
theorem OverSt.setR {w wr : World} {x Q R R' : Int} (h : OverSt w wr x Q R) :
    OverSt w ((wr.setCell ⟨w.heap.size + 1 + 1 + 1, 0, none⟩ (.int .u64 (hi R'))).setCell ⟨w.heap.size + 1 + 1 + 1, 1, none⟩ (.int .u64 (lo R'))) x Q R' := by
  obtain ⟨v0, o0⟩ := h.o0
  obtain ⟨v1, o1⟩ := h.o1
  exact ⟨cs (by omega) (cs (by omega) h.x0), cs (by omega) (cs (by omega) h.x1), cs (by omega) (cs (by omega) h.q0), cs (by omega) (cs (by omega) h.q1), cs (by omega) (cw h.r0), cw (cs (by omega) h.r1),
    ⟨v0, cs (by omega) (cs (by omega) o0)⟩, ⟨v1, cs (by omega) (cs (by omega) o1)⟩, by simp [h.f10], by simp [h.f11], by simp [h.f20], by simp [h.f21], by simp [h.f30], by simp [h.f31],
    by simpa [World.setCell] using h.hz, (h.hb.setCell (by show _ ≤ w.heap.size + 1 + 1 + 1; omega) _).setCell (by show _ ≤ w.heap.size + 1 + 1 + 1; omega) _⟩
/-- The quotient is written. -/
theorem OverSt.setQ {w wr : World} {x Q R Q' : Int} (h : OverSt w wr x Q R) :
    OverSt w ((wr.setCell ⟨w.heap.size + 1 + 1, 0, none⟩ (.int .u64 (hi Q'))).setCell ⟨w.heap.size + 1 + 1, 1, none⟩ (.int .u64 (lo Q'))) x Q' R := by
  obtain ⟨v0, o0⟩ := h.o0
  obtain ⟨v1, o1⟩ := h.o1
  exact ⟨cs (by omega) (cs (by omega) h.x0), cs (by omega) (cs (by omega) h.x1), cs (by omega) (cw h.q0), cw (cs (by omega) h.q1), cs (by omega) (cs (by omega) h.r0), cs (by omega) (cs (by omega) h.r1),
    ⟨v0, cs (by omega) (cs (by omega) o0)⟩, ⟨v1, cs (by omega) (cs (by omega) o1)⟩, by simp [h.f10], by simp [h.f11], by simp [h.f20], by simp [h.f21], by simp [h.f30], by simp [h.f31],
    by simpa [World.setCell] using h.hz, (h.hb.setCell (by show _ ≤ w.heap.size + 1 + 1; omega) _).setCell (by show _ ≤ w.heap.size + 1 + 1; omega) _⟩
/-- The quotient's lower half is written. -/
theorem OverSt.setL {w wr : World} {x Q R Q' : Int} (h : OverSt w wr x Q R) (e : hi Q = hi Q') :
    OverSt w (wr.setCell ⟨w.heap.size + 1 + 1, 1, none⟩ (.int .u64 (lo Q'))) x Q' R := by
  obtain ⟨v0, o0⟩ := h.o0
  obtain ⟨v1, o1⟩ := h.o1
  exact ⟨cs (by omega) h.x0, cs (by omega) h.x1, cs (by omega) (e ▸ h.q0), cw h.q1, cs (by omega) h.r0, cs (by omega) h.r1,
    ⟨v0, cs (by omega) o0⟩, ⟨v1, cs (by omega) o1⟩, by simp [h.f10], by simp [h.f11], by simp [h.f20], by simp [h.f21], by simp [h.f30], by simp [h.f31],
    by simpa [World.setCell] using h.hz, h.hb.setCell (by show _ ≤ w.heap.size + 1 + 1; omega) _⟩
theorem lo_odd (Q : Int) : IntKind.u64.wrap (lo (2 * Q) + 1) = lo (2 * Q + 1) := by
  rw [IntKind.wrap_u64]; unfold lo; omega
theorem hi_odd (Q : Int) : hi (2 * Q) = hi (2 * Q + 1) := by unfold hi; omega
theorem over_end {w wr w4 w5 : World} {x Q R R' : Int} (h : OverSt w wr x (2 * Q) R) (hb4 : Below wr.heap.size wr w4) (hb5 : Below w4.heap.size w4 w5) :
    OverSt w (((w5.setCell ⟨w.heap.size + 1 + 1 + 1, 0, none⟩ (.int .u64 (hi R'))).setCell ⟨w.heap.size + 1 + 1 + 1, 1, none⟩ (.int .u64 (lo R'))).setCell ⟨w.heap.size + 1 + 1, 1, none⟩ (.int .u64 (IntKind.u64.wrap (lo (2 * Q) + 1)))) x (2 * Q + 1) R' := by
  rw [lo_odd]
  exact (((h.below hb4).below hb5).setR).setL (hi_odd Q)
theorem over_start (w : World) (x d : Int) : OverSt w
    ((((w.alloc (.cells #[.int .u64 (hi x), .int .u64 (lo x)] 141)).alloc (.cells #[.int .u64 0, .int .u64 0] 141)).alloc (.cells #[.int .u64 0, .int .u64 0] 141)).alloc (.cells #[.int .u64 0, .int .u64 0] 141)) x (0 / d) (0 % d) := by
  rw [Int.zero_ediv, Int.zero_emod]
  have e0 : hi 0 = 0 := rfl
  have e1 : lo 0 = 0 := rfl
  refine ⟨?_, ?_, ?_, ?_, ?_, ?_, ⟨.int .u64 0, ?_⟩, ⟨.int .u64 0, ?_⟩, ?_, ?_, ?_, ?_, ?_, ?_, ?_, below4 _ _ _ _ _⟩
  all_goals simp [go_sem, e0, e1]
set_option maxHeartbeats 1000000 in
theorem over_any (x d : Int) (h0 : 0 ≤ x) (h1 : x < 340282366920938463463374607431768211456) (d0 : 0 < d) (d1 : d < 18446744073709551616) (w : World) :
    Calls Tryz.prog 176 #[.agg #[.int .u64 (hi x), .int .u64 (lo x)], .int .u64 d] w fun e w' =>
      e = .returned (.tuple #[.agg #[.int .u64 (hi (x / d)), .int .u64 (lo (x / d))], .int .u64 (x % d)]) ∧ Below w.heap.size w w' := by
  have H0 := hide h0
  have H1 := hide h1
  clear h0 h1
  have hd0 : (d == 0) = false := by simp; omega
  go_enter Tryz.func176, Tryz.ntmps176
  go_wp2
  go_loopw [8] (fun i wr => ∃ j : Nat, j ≤ 128 ∧ i = .int .i64 ((j : Int) - 1) ∧ OverSt w wr x (x / 2 ^ j / d) (x / 2 ^ j % d))
    (fun i _ => (intOf i + 1).toNat)
  case atStart =>
    refine ⟨128, by omega, rfl, ?_⟩
    rw [div_pow_all H0.out H1.out]
    exact over_start w x d
  case round =>
    obtain ⟨j, hj, rfl, hst⟩ := hrel
    by_cases hj0 : j = 0
    · subst hj0
      have ST := hide hst
      obtain ⟨x0, x1, q0, q1, r0, r1, ⟨v0, o0⟩, ⟨v1, o1⟩, f10, f11, f20, f21, f30, f31, hz, hb⟩ := hst
      clear hb
      go_wp2
      go_region
      go_wp2
      have elo : lo (x % d) = x % d := lo_small (Int.emod_nonneg _ (by omega)) (Int.lt_trans (Int.emod_lt_of_pos _ d0) d1)
      refine bodyPost_ret (v := .tuple #[.agg #[.int .u64 (hi (x / d)), .int .u64 (lo (x / d))], .int .u64 (x % d)]) (by simp [results, Tryz.results176, go_sem, o0, o1, elo]) rfl ⟨rfl, ?_⟩
      exact ((ST.out.hb.setCell (by show _ ≤ w.heap.size + 1; omega) _).setCell (by show _ ≤ w.heap.size + 1; omega) _).drew
    · obtain ⟨k, rfl⟩ : ∃ k, j = k + 1 := ⟨j - 1, by omega⟩
      have eh := half_pow x k
      have b0 := bitI0 x k
      have b1 := bitI1 x k
      have P0 : 0 ≤ x / 2 ^ (k + 1) := Int.ediv_nonneg H0.out (Int.le_of_lt (pow2_pos _))
      have P1 : x / 2 ^ (k + 1) < 170141183460469231731687303715884105728 := div_pow_half k H0.out H1.out
      have Q0 : 0 ≤ x / 2 ^ (k + 1) / d := Int.ediv_nonneg P0 (by omega)
      have Q1 : x / 2 ^ (k + 1) / d < 170141183460469231731687303715884105728 := Int.lt_of_le_of_lt (Int.ediv_le_self _ P0) P1
      have R0 : 0 ≤ x / 2 ^ (k + 1) % d := Int.emod_nonneg _ (by omega)
      have R1 : x / 2 ^ (k + 1) % d < d := Int.emod_lt_of_pos _ d0
      have S1 := step_lt (p := x / 2 ^ (k + 1)) d0 b0
      have S2 := step_ge (p := x / 2 ^ (k + 1)) d0 b1
      rw [← eh] at S1 S2
      generalize x / 2 ^ (k + 1) / d = Q at *
      generalize x / 2 ^ (k + 1) % d = R at *
      have T1 := hide S1
      have T2 := hide S2
      clear S1 S2 eh P0 P1
      have ST := hide hst
      obtain ⟨x0, x1, q0, q1, r0, r1, o0, o1, f10, f11, f20, f21, f30, f31, hz, hb⟩ := hst
      clear hb o0 o1
      have ek : ((k + 1 : Nat) : Int) - 1 = (k : Int) := by omega
      rw [ek]
      clear ek
      go_upto_region 8 with (fail)
      go_cut [] (fun wx => OverSt w wx x Q (2 * R + bitI x k))
      case first =>
        go_region_with
          (first
            | (go_at_call 90; refine (bit_any x k H0.out H1.out (by omega) _).mono ?_; rintro e w1 ⟨rfl, hb1⟩;
                have s0 := cb hb1 (by show _ < wr.heap.size; omega) r0;
                have s1 := cb hb1 (by show _ < wr.heap.size; omega) r1)
            | (go_at_call 88; refine (twice_any R (bitI x k) R0 (by omega) b0 b1 _).mono ?_; rintro e w2 ⟨rfl, hb2⟩;
                have hz1 : wr.heap.size ≤ w1.heap.size := hb1.size;
                have s2 := cb hb2 (by omega) s0;
                have s3 := cb hb2 (by omega) s1;
                have t2 := fb hb2 (by omega) (fb hb1 (by show _ < wr.heap.size; omega) f30);
                have t3 := fb hb2 (by omega) (fb hb1 (by show _ < wr.heap.size; omega) f31)))
        all_goals (go_wp2_with fail; go_meet; exact ((ST.out.drew.below hb1).below hb2).setR)
      case rest =>
        clear x0 x1 q0 q1 r0 r1 f10 f11 f20 f21 f30 f31 hz ST
        have ST := hide hcut
        obtain ⟨x0, x1, q0, q1, r0, r1, o0, o1, f10, f11, f20, f21, f30, f31, hz, hb⟩ := hcut
        clear o0 o1 hb x0 x1 r0 r1 f10 f11 f30 f31
        go_upto_region 9 with (fail)
        go_cut [] (fun wx => OverSt w wx x (2 * Q) (2 * R + bitI x k))
        case first =>
          go_wp2_with (first
            | (go_at_call 88; refine (twice_any Q 0 Q0 Q1 (by omega) (by omega) _).mono ?_; rintro e w3 ⟨rfl, hb3⟩;
                  have q3 := cb hb3 (by omega) q0;
                  have q4 := cb hb3 (by omega) q1;
                  have t3 := fb hb3 (by omega) f20;
                  have t4 := fb hb3 (by omega) f21))
          go_meet
          exact (ST.out.below hb3).setQ
        case rest =>
          clear q0 q1 f20 f21 hz ST
          have ST := hide hcut
          obtain ⟨x0, x1, q0, q1, r0, r1, o0, o1, f10, f11, f20, f21, f30, f31, hz, hb⟩ := hcut
          clear o0 o1 hb x0 x1 f10 f11
          by_cases hlt : 2 * R + bitI x k < d
          · have hd := less_yes (2 * R + bitI x k) d 0 d (hi_small (by omega) d1).symm (lo_small (by omega) d1).symm hlt (by omega) (by omega)
            go_wp2_with (go_at_call 92; refine (hd _).mono ?_; rintro e w4 ⟨rfl, hb4⟩)
            obtain ⟨t1, t2⟩ := T1.out hlt
            go_roundw
            case rel => exact ⟨k, by omega, rfl, by rw [t1, t2]; exact ST.out.below hb4⟩
            case measure => simp [intOf]
          · have hd := less_no (2 * R + bitI x k) d 0 d (hi_small (by omega) d1).symm (lo_small (by omega) d1).symm (by omega) (by omega) (by omega)
            go_wp2_with (first
              | (go_at_call 92; refine (hd _).mono ?_; rintro e w4 ⟨rfl, hb4⟩;
                  have r3 := cb hb4 (by omega) r0;
                  have r4 := cb hb4 (by omega) r1)
              | (go_at_call 91; refine (minus_low (2 * R + bitI x k) d (by omega) (by omega) d1 (by omega) _).mono ?_; rintro e w5 ⟨rfl, hb5⟩;
                  have hz4 := hb4.size;
                  have r5 := cb hb5 (by omega) r3;
                  have r6 := cb hb5 (by omega) r4;
                  have f5 := fb hb5 (by omega) (fb hb4 (by omega) f30);
                  have f6 := fb hb5 (by omega) (fb hb4 (by omega) f31);
                  have q6 := cb hb5 (by omega) (cb hb4 (by omega) q1);
                  have g6 := fb hb5 (by omega) (fb hb4 (by omega) f21)))
            obtain ⟨t1, t2⟩ := T2.out (by omega)
            go_roundw
            case rel => exact ⟨k, by omega, rfl, by rw [t1, t2]; exact over_end ST.out hb4 hb5⟩
            case measure => simp [intOf]
end Go.Proofs.YtaafhjngnjjcmaaGreatDoor

/- The rounded quotients of the document's answers (layer 1). -/
namespace Go.Proofs.YtaafhjngnjjcmaaGreatDoor
open Go.RowKit


theorem bt {a w w1 : World} (h : Below a.heap.size a w) (b : Below w.heap.size w w1) : Below a.heap.size a w1 := h.trans (b.mono h.size)
theorem ba {a w : World} (h : Below a.heap.size a w) (o : Obj) : Below a.heap.size a (w.alloc o) := h.alloc h.size o
theorem bs {a w : World} {b o : Nat} (h : Below a.heap.size a w) (hp : a.heap.size ≤ b) (u : Value) : Below a.heap.size a (w.setCell ⟨b, o, none⟩ u) := h.setCell (p := ⟨b, o, none⟩) hp u
theorem bd {a w : World} (h : Below a.heap.size a w) : Below a.heap.size a w.drew := h.drew
theorem ca {w : World} {b o : Nat} {v : Value} {ob : Obj} (h : b < w.heap.size) (hc : w.cell? ⟨b, o, none⟩ = some v) : (w.alloc ob).cell? ⟨b, o, none⟩ = some v := (World.cell?_alloc_past ob b o h).trans hc
theorem fa {w : World} {b o : Nat} {ob : Obj} (h : b < w.heap.size) (hc : w.frozen? ⟨b, o, none⟩ = false) : (w.alloc ob).frozen? ⟨b, o, none⟩ = false := (World.frozen?_alloc_past ob b o h).trans hc
theorem twice_low (r : Int) (h0 : 0 ≤ r) (h1 : r < 18446744073709551616) (w : World) :
    Calls Tryz.prog 88 #[.agg #[.int .u64 0, .int .u64 r], .int .u64 0] w fun e w' => e = .returned (.agg #[.int .u64 (hi (2 * r)), .int .u64 (lo (2 * r))]) ∧ Below w.heap.size w w' := by
  have h := twice_any r 0 h0 (by omega) (by omega) (by omega) w
  rw [hi_small h0 h1, lo_small h0 h1, Int.add_zero] at h
  exact h
theorem low_less (x y h l : Int) (eh : h = hi x) (el : l = lo x) (b : Bool) (hb : decide (x < y) = b) (h0 : 0 ≤ x) (k0 : 0 ≤ y) (h1 : x < 340282366920938463463374607431768211456) (k1 : y < 340282366920938463463374607431768211456) (w : World) :
    Calls Tryz.prog 92 #[.agg #[.int .u64 h, .int .u64 l], .agg #[.int .u64 (hi y), .int .u64 (lo y)]] w fun e w' => e = .returned (.bool b) ∧ Below w.heap.size w w' := by
  subst eh; subst el; subst hb
  exact less_any x y h0 k0 h1 k1 w
theorem less_low (x y h l : Int) (eh : h = hi y) (el : l = lo y) (b : Bool) (hb : decide (x < y) = b) (h0 : 0 ≤ x) (k0 : 0 ≤ y) (h1 : x < 340282366920938463463374607431768211456) (k1 : y < 340282366920938463463374607431768211456) (w : World) :
    Calls Tryz.prog 92 #[.agg #[.int .u64 (hi x), .int .u64 (lo x)], .agg #[.int .u64 h, .int .u64 l]] w fun e w' => e = .returned (.bool b) ∧ Below w.heap.size w w' := by
  subst eh; subst el; subst hb
  exact less_any x y h0 k0 h1 k1 w
theorem plus_one (x : Int) (h0 : 0 ≤ x) (h1 : x + 1 < 340282366920938463463374607431768211456) (w : World) :
    Calls Tryz.prog 93 #[.agg #[.int .u64 (hi x), .int .u64 (lo x)], .agg #[.int .u64 0, .int .u64 1]] w fun e w' => e = .returned (.agg #[.int .u64 (hi (x + 1)), .int .u64 (lo (x + 1))]) ∧ Below w.heap.size w w' :=
  plus_any x 1 h0 (by omega) h1 w
theorem hiz (d : Int) (h0 : 0 ≤ d) (h1 : d < 18446744073709551616) : 0 = hi d := (hi_small h0 h1).symm
theorem loz (d : Int) (h0 : 0 ≤ d) (h1 : d < 18446744073709551616) : d = lo d := (lo_small h0 h1).symm
set_option maxHeartbeats 1000000 in
theorem near_false (x d : Int) (h0 : 0 ≤ x) (h1 : x < 170141183460469231731687303715884105728) (d0 : 0 < d) (d1 : d < 18446744073709551616) (w : World) :
    Calls Tryz.prog 151 #[.agg #[.int .u64 (hi x), .int .u64 (lo x)], .int .u64 d, .bool false] w fun e w' =>
      e = .returned (.int .i64 (holdI (x / d + if d ≤ 2 * (x % d) then 1 else 0))) ∧ Below w.heap.size w w' := by
  have Q0 : 0 ≤ x / d := Int.ediv_nonneg h0 (by omega)
  have Q1 : x / d < 170141183460469231731687303715884105728 := Int.lt_of_le_of_lt (Int.ediv_le_self _ h0) h1
  have R0 : 0 ≤ x % d := Int.emod_nonneg _ (by omega)
  have R1 : x % d < d := Int.emod_lt_of_pos _ d0
  have CO := over_any x d h0 (by omega) d0 d1
  generalize x / d = Q at *
  generalize x % d = R at *
  have CT := twice_low R R0 (by omega)
  clear h0 h1
  by_cases hc : d ≤ 2 * R
  · have CL := less_low (2 * R) d 0 d (hiz d (by omega) d1) (loz d (by omega) d1) false (decide_eq_false (by omega)) (by omega) (by omega) (by omega) (by omega)
    have CP := plus_one Q Q0 (by omega)
    have CH := hold_any (Q + 1) false (by omega) (by omega)
    rw [if_pos hc]
    go_enter Tryz.func151, Tryz.ntmps151
    go_wp2_with (first
      | (go_at_call 176; (with_reducible refine (CO _).mono ?_); rintro e w1 ⟨rfl, b1⟩; have z1 : w.heap.size + 1 ≤ w1.heap.size := (by simpa using b1.size))
      | (go_at_call 88; (with_reducible refine (CT _).mono ?_); rintro e w2 ⟨rfl, b2⟩; have z2 : w1.heap.size + 1 ≤ w2.heap.size := (by simpa using b2.size); have q20 : w2.cell? ⟨w1.heap.size, 0, none⟩ = some (.int .u64 (hi Q)) := cb b2 (by simp) (by simp); have q21 : w2.cell? ⟨w1.heap.size, 1, none⟩ = some (.int .u64 (lo Q)) := cb b2 (by simp) (by simp); have g20 : w2.frozen? ⟨w1.heap.size, 0, none⟩ = false := fb b2 (by simp) (by simp); have g21 : w2.frozen? ⟨w1.heap.size, 1, none⟩ = false := fb b2 (by simp) (by simp))
      | (go_at_call 92; (with_reducible refine (CL _).mono ?_); rintro e w3 ⟨rfl, b3⟩; have z3 : w2.heap.size + 1 ≤ w3.heap.size := (by simpa using b3.size); have q30 := cb b3 (by simp; omega) (ca (by omega) q20); have g30 := fb b3 (by simp; omega) (fa (by omega) g20); have q31 := cb b3 (by simp; omega) (ca (by omega) q21); have g31 := fb b3 (by simp; omega) (fa (by omega) g21); have t30 : w3.cell? ⟨w2.heap.size, 0, none⟩ = some (.int .u64 (hi (2 * R))) := cb b3 (by simp) (by simp); have t31 : w3.cell? ⟨w2.heap.size, 1, none⟩ = some (.int .u64 (lo (2 * R))) := cb b3 (by simp) (by simp))
      | (go_at_call 93; (with_reducible refine (CP _).mono ?_); rintro e w4 ⟨rfl, b4⟩; have z4 : w3.heap.size ≤ w4.heap.size := b4.size; have q40 := cb b4 (by omega) q30; have g40 := fb b4 (by omega) g30; have q41 := cb b4 (by omega) q31; have g41 := fb b4 (by omega) g31)
      | (go_at_call 94; (with_reducible refine (CH _).mono ?_); rintro e w5 ⟨rfl, b5⟩))
    go_ret
    refine ⟨ret_i64 rfl, ?_⟩
    repeat (first | exact Below.refl _ _ | with_reducible refine ba ?_ _ | with_reducible refine bs ?_ (by omega) _ | with_reducible refine bd ?_ | (with_reducible refine bt ?_ (by assumption)))
  · have CL := less_low (2 * R) d 0 d (hiz d (by omega) d1) (loz d (by omega) d1) true (decide_eq_true (by omega)) (by omega) (by omega) (by omega) (by omega)
    have CH := hold_any Q false (by omega) (by omega)
    rw [if_neg hc]
    go_enter Tryz.func151, Tryz.ntmps151
    go_wp2_with (first
      | (go_at_call 176; (with_reducible refine (CO _).mono ?_); rintro e w1 ⟨rfl, b1⟩; have z1 : w.heap.size + 1 ≤ w1.heap.size := (by simpa using b1.size))
      | (go_at_call 88; (with_reducible refine (CT _).mono ?_); rintro e w2 ⟨rfl, b2⟩; have z2 : w1.heap.size + 1 ≤ w2.heap.size := (by simpa using b2.size); have q20 : w2.cell? ⟨w1.heap.size, 0, none⟩ = some (.int .u64 (hi Q)) := cb b2 (by simp) (by simp); have q21 : w2.cell? ⟨w1.heap.size, 1, none⟩ = some (.int .u64 (lo Q)) := cb b2 (by simp) (by simp); have g20 : w2.frozen? ⟨w1.heap.size, 0, none⟩ = false := fb b2 (by simp) (by simp); have g21 : w2.frozen? ⟨w1.heap.size, 1, none⟩ = false := fb b2 (by simp) (by simp))
      | (go_at_call 92; (with_reducible refine (CL _).mono ?_); rintro e w3 ⟨rfl, b3⟩; have z3 : w2.heap.size + 1 ≤ w3.heap.size := (by simpa using b3.size); have q30 := cb b3 (by simp; omega) (ca (by omega) q20); have g30 := fb b3 (by simp; omega) (fa (by omega) g20); have q31 := cb b3 (by simp; omega) (ca (by omega) q21); have g31 := fb b3 (by simp; omega) (fa (by omega) g21); have t30 : w3.cell? ⟨w2.heap.size, 0, none⟩ = some (.int .u64 (hi (2 * R))) := cb b3 (by simp) (by simp); have t31 : w3.cell? ⟨w2.heap.size, 1, none⟩ = some (.int .u64 (lo (2 * R))) := cb b3 (by simp) (by simp))
      | (go_at_call 94; (with_reducible refine (CH _).mono ?_); rintro e w4 ⟨rfl, b4⟩))
    go_ret
    refine ⟨ret_i64 (by simp [signI]), ?_⟩
    repeat (first | exact Below.refl _ _ | with_reducible refine ba ?_ _ | with_reducible refine bs ?_ (by omega) _ | with_reducible refine bd ?_ | (with_reducible refine bt ?_ (by assumption)))
set_option maxHeartbeats 1000000 in
theorem near_true (x d : Int) (h0 : 0 ≤ x) (h1 : x < 170141183460469231731687303715884105728) (d0 : 0 < d) (d1 : d < 18446744073709551616) (w : World) :
    Calls Tryz.prog 151 #[.agg #[.int .u64 (hi x), .int .u64 (lo x)], .int .u64 d, .bool true] w fun e w' =>
      e = .returned (.int .i64 (holdI (-(x / d + if d < 2 * (x % d) then 1 else 0)))) ∧ Below w.heap.size w w' := by
  have Q0 : 0 ≤ x / d := Int.ediv_nonneg h0 (by omega)
  have Q1 : x / d < 170141183460469231731687303715884105728 := Int.lt_of_le_of_lt (Int.ediv_le_self _ h0) h1
  have R0 : 0 ≤ x % d := Int.emod_nonneg _ (by omega)
  have R1 : x % d < d := Int.emod_lt_of_pos _ d0
  have CO := over_any x d h0 (by omega) d0 d1
  generalize x / d = Q at *
  generalize x % d = R at *
  have CT := twice_low R R0 (by omega)
  clear h0 h1
  by_cases hc : d < 2 * R
  · have CL := less_low (2 * R) d 0 d (hiz d (by omega) d1) (loz d (by omega) d1) false (decide_eq_false (by omega)) (by omega) (by omega) (by omega) (by omega)
    have CM := low_less d (2 * R) 0 d (hiz d (by omega) d1) (loz d (by omega) d1) true (decide_eq_true (by omega)) (by omega) (by omega) (by omega) (by omega)
    have CP := plus_one Q Q0 (by omega)
    have CH := hold_any (Q + 1) true (by omega) (by omega)
    rw [if_pos hc]
    go_enter Tryz.func151, Tryz.ntmps151
    go_wp2_with (first
      | (go_at_call 176; (with_reducible refine (CO _).mono ?_); rintro e w1 ⟨rfl, b1⟩; have z1 : w.heap.size + 1 ≤ w1.heap.size := (by simpa using b1.size))
      | (go_at_call 88; (with_reducible refine (CT _).mono ?_); rintro e w2 ⟨rfl, b2⟩; have z2 : w1.heap.size + 1 ≤ w2.heap.size := (by simpa using b2.size); have q20 : w2.cell? ⟨w1.heap.size, 0, none⟩ = some (.int .u64 (hi Q)) := cb b2 (by simp) (by simp); have q21 : w2.cell? ⟨w1.heap.size, 1, none⟩ = some (.int .u64 (lo Q)) := cb b2 (by simp) (by simp); have g20 : w2.frozen? ⟨w1.heap.size, 0, none⟩ = false := fb b2 (by simp) (by simp); have g21 : w2.frozen? ⟨w1.heap.size, 1, none⟩ = false := fb b2 (by simp) (by simp))
      | (go_at_call 92; (with_reducible refine (CL _).mono ?_); rintro e w3 ⟨rfl, b3⟩; have z3 : w2.heap.size + 1 ≤ w3.heap.size := (by simpa using b3.size); have q30 := cb b3 (by simp; omega) (ca (by omega) q20); have g30 := fb b3 (by simp; omega) (fa (by omega) g20); have q31 := cb b3 (by simp; omega) (ca (by omega) q21); have g31 := fb b3 (by simp; omega) (fa (by omega) g21); have t30 : w3.cell? ⟨w2.heap.size, 0, none⟩ = some (.int .u64 (hi (2 * R))) := cb b3 (by simp) (by simp); have t31 : w3.cell? ⟨w2.heap.size, 1, none⟩ = some (.int .u64 (lo (2 * R))) := cb b3 (by simp) (by simp))
      | (go_at_call 92; (with_reducible refine (CM _).mono ?_); rintro e w4 ⟨rfl, b4⟩; have z4 : w3.heap.size ≤ w4.heap.size := b4.size; have q40 := cb b4 (by omega) q30; have g40 := fb b4 (by omega) g30; have q41 := cb b4 (by omega) q31; have g41 := fb b4 (by omega) g31)
      | (go_at_call 93; (with_reducible refine (CP _).mono ?_); rintro e w5 ⟨rfl, b5⟩; have z5 : w4.heap.size ≤ w5.heap.size := b5.size; have q50 := cb b5 (by omega) q40; have g50 := fb b5 (by omega) g40; have q51 := cb b5 (by omega) q41; have g51 := fb b5 (by omega) g41)
      | (go_at_call 94; (with_reducible refine (CH _).mono ?_); rintro e w6 ⟨rfl, b6⟩))
    go_ret
    refine ⟨ret_i64 rfl, ?_⟩
    repeat (first | exact Below.refl _ _ | with_reducible refine ba ?_ _ | with_reducible refine bs ?_ (by omega) _ | with_reducible refine bd ?_ | (with_reducible refine bt ?_ (by assumption)))
  · by_cases he : d = 2 * R
    · have he' : d ≤ 2 * R := by omega
      clear he
      have CL := less_low (2 * R) d 0 d (hiz d (by omega) d1) (loz d (by omega) d1) false (decide_eq_false (by omega)) (by omega) (by omega) (by omega) (by omega)
      have CM := low_less d (2 * R) 0 d (hiz d (by omega) d1) (loz d (by omega) d1) false (decide_eq_false (by omega)) (by omega) (by omega) (by omega) (by omega)
      have CH := hold_any Q true (by omega) (by omega)
      rw [if_neg hc]
      go_enter Tryz.func151, Tryz.ntmps151
      go_wp2_with (first
        | (go_at_call 176; (with_reducible refine (CO _).mono ?_); rintro e w1 ⟨rfl, b1⟩; have z1 : w.heap.size + 1 ≤ w1.heap.size := (by simpa using b1.size))
        | (go_at_call 88; (with_reducible refine (CT _).mono ?_); rintro e w2 ⟨rfl, b2⟩; have z2 : w1.heap.size + 1 ≤ w2.heap.size := (by simpa using b2.size); have q20 : w2.cell? ⟨w1.heap.size, 0, none⟩ = some (.int .u64 (hi Q)) := cb b2 (by simp) (by simp); have q21 : w2.cell? ⟨w1.heap.size, 1, none⟩ = some (.int .u64 (lo Q)) := cb b2 (by simp) (by simp); have g20 : w2.frozen? ⟨w1.heap.size, 0, none⟩ = false := fb b2 (by simp) (by simp); have g21 : w2.frozen? ⟨w1.heap.size, 1, none⟩ = false := fb b2 (by simp) (by simp))
        | (go_at_call 92; (with_reducible refine (CL _).mono ?_); rintro e w3 ⟨rfl, b3⟩; have z3 : w2.heap.size + 1 ≤ w3.heap.size := (by simpa using b3.size); have q30 := cb b3 (by simp; omega) (ca (by omega) q20); have g30 := fb b3 (by simp; omega) (fa (by omega) g20); have q31 := cb b3 (by simp; omega) (ca (by omega) q21); have g31 := fb b3 (by simp; omega) (fa (by omega) g21); have t30 : w3.cell? ⟨w2.heap.size, 0, none⟩ = some (.int .u64 (hi (2 * R))) := cb b3 (by simp) (by simp); have t31 : w3.cell? ⟨w2.heap.size, 1, none⟩ = some (.int .u64 (lo (2 * R))) := cb b3 (by simp) (by simp))
        | (go_at_call 92; (with_reducible refine (CM _).mono ?_); rintro e w4 ⟨rfl, b4⟩; have z4 : w3.heap.size ≤ w4.heap.size := b4.size; have q40 := cb b4 (by omega) q30; have g40 := fb b4 (by omega) g30; have q41 := cb b4 (by omega) q31; have g41 := fb b4 (by omega) g31)
        | (go_at_call 94; (with_reducible refine (CH _).mono ?_); rintro e w5 ⟨rfl, b5⟩))
      go_ret
      refine ⟨ret_i64 (by simp [signI]), ?_⟩
      repeat (first | exact Below.refl _ _ | with_reducible refine ba ?_ _ | with_reducible refine bs ?_ (by omega) _ | with_reducible refine bd ?_ | (with_reducible refine bt ?_ (by assumption)))
    · have CL := less_low (2 * R) d 0 d (hiz d (by omega) d1) (loz d (by omega) d1) true (decide_eq_true (by omega)) (by omega) (by omega) (by omega) (by omega)
      have CM := low_less d (2 * R) 0 d (hiz d (by omega) d1) (loz d (by omega) d1) false (decide_eq_false (by omega)) (by omega) (by omega) (by omega) (by omega)
      have CH := hold_any Q true (by omega) (by omega)
      rw [if_neg hc]
      go_enter Tryz.func151, Tryz.ntmps151
      go_wp2_with (first
        | (go_at_call 176; (with_reducible refine (CO _).mono ?_); rintro e w1 ⟨rfl, b1⟩; have z1 : w.heap.size + 1 ≤ w1.heap.size := (by simpa using b1.size))
        | (go_at_call 88; (with_reducible refine (CT _).mono ?_); rintro e w2 ⟨rfl, b2⟩; have z2 : w1.heap.size + 1 ≤ w2.heap.size := (by simpa using b2.size); have q20 : w2.cell? ⟨w1.heap.size, 0, none⟩ = some (.int .u64 (hi Q)) := cb b2 (by simp) (by simp); have q21 : w2.cell? ⟨w1.heap.size, 1, none⟩ = some (.int .u64 (lo Q)) := cb b2 (by simp) (by simp); have g20 : w2.frozen? ⟨w1.heap.size, 0, none⟩ = false := fb b2 (by simp) (by simp); have g21 : w2.frozen? ⟨w1.heap.size, 1, none⟩ = false := fb b2 (by simp) (by simp))
        | (go_at_call 92; (with_reducible refine (CL _).mono ?_); rintro e w3 ⟨rfl, b3⟩; have z3 : w2.heap.size + 1 ≤ w3.heap.size := (by simpa using b3.size); have q30 := cb b3 (by simp; omega) (ca (by omega) q20); have g30 := fb b3 (by simp; omega) (fa (by omega) g20); have q31 := cb b3 (by simp; omega) (ca (by omega) q21); have g31 := fb b3 (by simp; omega) (fa (by omega) g21); have t30 : w3.cell? ⟨w2.heap.size, 0, none⟩ = some (.int .u64 (hi (2 * R))) := cb b3 (by simp) (by simp); have t31 : w3.cell? ⟨w2.heap.size, 1, none⟩ = some (.int .u64 (lo (2 * R))) := cb b3 (by simp) (by simp))
        | (go_at_call 92; (with_reducible refine (CM _).mono ?_); rintro e w4 ⟨rfl, b4⟩; have z4 : w3.heap.size ≤ w4.heap.size := b4.size; have q40 := cb b4 (by omega) q30; have g40 := fb b4 (by omega) g30; have q41 := cb b4 (by omega) q31; have g41 := fb b4 (by omega) g31)
        | (go_at_call 94; (with_reducible refine (CH _).mono ?_); rintro e w5 ⟨rfl, b5⟩))
      go_ret
      refine ⟨ret_i64 (by simp [signI]), ?_⟩
      repeat (first | exact Below.refl _ _ | with_reducible refine ba ?_ _ | with_reducible refine bs ?_ (by omega) _ | with_reducible refine bd ?_ | (with_reducible refine bt ?_ (by assumption)))
end Go.Proofs.YtaafhjngnjjcmaaGreatDoor
