/- Parts, joined. -/
import Derived.Test.YtaafhjngnjjcmaaGreatDoorJ02
import Derived.Test.YtaafhjngnjjcmaaGreatDoorJ01
import Derived.Test.YtaafhjngnjjcmaaGreatDoorJ03
import Derived.IntWalk
import Derived.Shelf.Bits.Mul64
import Derived.Deep.DeepCutAuto
/- Quotients: the program's and the document's, each as plain arithmetic. -/
namespace Go.Proofs.YtaafhjngnjjcmaaGreatDoor
open Go.RowKit

/-! ### The document's -/
theorem refsize_to (a x : Int) (hx : absI a = x) (h0 : -9223372036854775808 ≤ a) (h1 : a ≤ 9223372036854775807) (w : World) :
    Calls Tryz.prog 89 #[.int .i64 a] w fun e w' => e = .returned (.int .u64 x) ∧ w = w' := by
  subst hx
  exact refsize_any a h0 h1 w
theorem over_low (x d : Int) (h0 : 0 ≤ x) (h1 : x < 18446744073709551616) (d0 : 0 < d) (d1 : d < 18446744073709551616) (w : World) :
    Calls Tryz.prog 176 #[.agg #[.int .u64 0, .int .u64 x], .int .u64 d] w fun e w' =>
      e = .returned (.tuple #[.agg #[.int .u64 (hi (x / d)), .int .u64 (lo (x / d))], .int .u64 (x % d)]) ∧ Below w.heap.size w w' := by
  have h := over_any x d h0 (by omega) d0 d1 w
  rw [hi_small h0 h1, lo_small h0 h1] at h
  exact h
theorem reffloor_any (a b : Int) (h0 : -9223372036854775808 ≤ a) (h1 : a ≤ 9223372036854775807) (k0 : -9223372036854775808 ≤ b) (k1 : b ≤ 9223372036854775807) (w : World) :
    Calls Tryz.prog 146 #[.int .i64 a, .int .i64 b] w fun e w' => e = .returned (.int .i64 (floorF a b)) ∧ Below w.heap.size w w' := by
  by_cases hb : b = 0
  · subst hb
    go_enter Tryz.func146, Tryz.ntmps146
    go_wp2
    go_ret
    exact ⟨ret_i64 (by simp [floorF]), Below.refl _ _⟩
  rw [floorF_of hb]
  by_cases ha : a < 0
  · by_cases hn : b < 0
    · have ga : a < 0 := by omega
      have gb : b < 0 := by omega
      obtain ⟨x, hx⟩ : ∃ x, x = -a := ⟨_, rfl⟩
      have Cx := refsize_to a x ((absI_neg ga).trans hx.symm) (by omega) (by omega)
      obtain ⟨d, hd⟩ : ∃ d, d = -b := ⟨_, rfl⟩
      have Cd := refsize_to b d ((absI_neg gb).trans hd.symm) (by omega) (by omega)
      have bx : 0 ≤ x ∧ x ≤ 9223372036854775808 := by omega
      have bd : 0 < d ∧ d ≤ 9223372036854775808 := by omega
      have CO := over_low x d (by omega) (by omega) (by omega) (by omega)
      have Q0 := quo_le (x := x) (d := d) (by omega) (by omega)
      have R0 := rest_in (x := x) (d := d) (by omega)
      have e : floorQ a b = x / d := by unfold floorQ; rw [if_pos gb]; subst hx; subst hd; rfl
      rw [e]
      clear e hx hd hb
      obtain ⟨Q0, Q1⟩ := Q0
      obtain ⟨R0, R1⟩ := R0
      have Q2 : x / d ≤ 9223372036854775808 := by omega
      generalize x / d = Q at *
      generalize x % d = r at *
      have CH := hold_any Q false (by omega) (by omega)
      clear bx bd Q1
      have da : decide (a < 0) = true := decide_eq_true ga
      have db : decide (b < 0) = true := decide_eq_true gb
      go_enter Tryz.func146, Tryz.ntmps146
      go_wp2_with (first
        | (go_at_call 89; (with_reducible refine (Cx _).mono ?_); rintro e w' ⟨rfl, rfl⟩)
        | (go_at_call 89; (with_reducible refine (Cd _).mono ?_); rintro e w' ⟨rfl, rfl⟩)
        | (go_at_call 176; (with_reducible refine (CO _).mono ?_); rintro e w1 ⟨rfl, b1⟩; have z1 := b1.size)
        | (go_at_call 94; (with_reducible refine (CH _).mono ?_); rintro e w5 ⟨rfl, b5⟩))
      go_ret
      refine ⟨ret_i64 (by simp [signI]), ?_⟩
      repeat (first | exact Below.refl _ _ | with_reducible refine ba ?_ _ | with_reducible refine bs ?_ (by omega) _ | with_reducible refine bd ?_ | (with_reducible refine bt ?_ (by assumption)))
    · have ga : a < 0 := by omega
      have gb : 0 < b := by omega
      obtain ⟨x, hx⟩ : ∃ x, x = -a := ⟨_, rfl⟩
      have Cx := refsize_to a x ((absI_neg ga).trans hx.symm) (by omega) (by omega)
      obtain ⟨d, hd⟩ : ∃ d, d = b := ⟨_, rfl⟩
      have Cd := refsize_to b d ((absI_pos (Int.le_of_lt gb)).trans hd.symm) (by omega) (by omega)
      have bx : 0 ≤ x ∧ x ≤ 9223372036854775808 := by omega
      have bd : 0 < d ∧ d ≤ 9223372036854775808 := by omega
      have CO := over_low x d (by omega) (by omega) (by omega) (by omega)
      have Q0 := quo_le (x := x) (d := d) (by omega) (by omega)
      have R0 := rest_in (x := x) (d := d) (by omega)
      have e : floorQ a b = -(x / d + if 0 < x % d then 1 else 0) := by unfold floorQ; rw [if_neg (by omega)]; rw [← floor_below (by omega)]; subst hx; subst hd; rw [Int.neg_neg]
      rw [e]
      clear e hx hd hb
      obtain ⟨Q0, Q1⟩ := Q0
      obtain ⟨R0, R1⟩ := R0
      have Q2 : x / d ≤ 9223372036854775808 := by omega
      generalize x / d = Q at *
      generalize x % d = r at *
      by_cases hr : 0 < r
      · rw [if_pos hr]
        have CH := hold_any (Q + 1) true (by omega) (by omega)
        have CP := plus_one Q Q0 (by omega)
        clear bx bd Q1
        have da : decide (a < 0) = true := decide_eq_true ga
        have db : decide (b < 0) = false := decide_eq_false (by omega)
        go_enter Tryz.func146, Tryz.ntmps146
        go_wp2_with (first
          | (go_at_call 89; (with_reducible refine (Cx _).mono ?_); rintro e w' ⟨rfl, rfl⟩)
          | (go_at_call 89; (with_reducible refine (Cd _).mono ?_); rintro e w' ⟨rfl, rfl⟩)
          | (go_at_call 176; (with_reducible refine (CO _).mono ?_); rintro e w1 ⟨rfl, b1⟩; have z1 := b1.size)
          | (go_at_call 93; (with_reducible refine (CP _).mono ?_); rintro e w2 ⟨rfl, b2⟩; have z2 : w1.heap.size + 1 ≤ w2.heap.size := (by simpa using b2.size); have q20 : w2.cell? ⟨w1.heap.size, 0, none⟩ = some (.int .u64 (hi Q)) := cb b2 (by simp) (by simp); have q21 : w2.cell? ⟨w1.heap.size, 1, none⟩ = some (.int .u64 (lo Q)) := cb b2 (by simp) (by simp); have g20 : w2.frozen? ⟨w1.heap.size, 0, none⟩ = false := fb b2 (by simp) (by simp); have g21 : w2.frozen? ⟨w1.heap.size, 1, none⟩ = false := fb b2 (by simp) (by simp))
          | (go_at_call 94; (with_reducible refine (CH _).mono ?_); rintro e w5 ⟨rfl, b5⟩))
        go_ret
        refine ⟨ret_i64 rfl, ?_⟩
        repeat (first | exact Below.refl _ _ | with_reducible refine ba ?_ _ | with_reducible refine bs ?_ (by omega) _ | with_reducible refine bd ?_ | (with_reducible refine bt ?_ (by assumption)))
      · rw [if_neg hr]
        have CH := hold_any Q true (by omega) (by omega)
        clear bx bd Q1
        have da : decide (a < 0) = true := decide_eq_true ga
        have db : decide (b < 0) = false := decide_eq_false (by omega)
        go_enter Tryz.func146, Tryz.ntmps146
        go_wp2_with (first
          | (go_at_call 89; (with_reducible refine (Cx _).mono ?_); rintro e w' ⟨rfl, rfl⟩)
          | (go_at_call 89; (with_reducible refine (Cd _).mono ?_); rintro e w' ⟨rfl, rfl⟩)
          | (go_at_call 176; (with_reducible refine (CO _).mono ?_); rintro e w1 ⟨rfl, b1⟩; have z1 := b1.size)
          | (go_at_call 94; (with_reducible refine (CH _).mono ?_); rintro e w5 ⟨rfl, b5⟩))
        go_ret
        refine ⟨ret_i64 (by simp [signI]), ?_⟩
        repeat (first | exact Below.refl _ _ | with_reducible refine ba ?_ _ | with_reducible refine bs ?_ (by omega) _ | with_reducible refine bd ?_ | (with_reducible refine bt ?_ (by assumption)))
  · by_cases hn : b < 0
    · have ga : 0 ≤ a := by omega
      have gb : b < 0 := by omega
      obtain ⟨x, hx⟩ : ∃ x, x = a := ⟨_, rfl⟩
      have Cx := refsize_to a x ((absI_pos ga).trans hx.symm) (by omega) (by omega)
      obtain ⟨d, hd⟩ : ∃ d, d = -b := ⟨_, rfl⟩
      have Cd := refsize_to b d ((absI_neg gb).trans hd.symm) (by omega) (by omega)
      have bx : 0 ≤ x ∧ x ≤ 9223372036854775808 := by omega
      have bd : 0 < d ∧ d ≤ 9223372036854775808 := by omega
      have CO := over_low x d (by omega) (by omega) (by omega) (by omega)
      have Q0 := quo_le (x := x) (d := d) (by omega) (by omega)
      have R0 := rest_in (x := x) (d := d) (by omega)
      have e : floorQ a b = -(x / d + if 0 < x % d then 1 else 0) := by unfold floorQ; rw [if_pos gb]; rw [← floor_below (by omega)]; subst hx; subst hd; rfl
      rw [e]
      clear e hx hd hb
      obtain ⟨Q0, Q1⟩ := Q0
      obtain ⟨R0, R1⟩ := R0
      have Q2 : x / d ≤ 9223372036854775808 := by omega
      generalize x / d = Q at *
      generalize x % d = r at *
      by_cases hr : 0 < r
      · rw [if_pos hr]
        have CH := hold_any (Q + 1) true (by omega) (by omega)
        have CP := plus_one Q Q0 (by omega)
        clear bx bd Q1
        have da : decide (a < 0) = false := decide_eq_false (by omega)
        have db : decide (b < 0) = true := decide_eq_true gb
        go_enter Tryz.func146, Tryz.ntmps146
        go_wp2_with (first
          | (go_at_call 89; (with_reducible refine (Cx _).mono ?_); rintro e w' ⟨rfl, rfl⟩)
          | (go_at_call 89; (with_reducible refine (Cd _).mono ?_); rintro e w' ⟨rfl, rfl⟩)
          | (go_at_call 176; (with_reducible refine (CO _).mono ?_); rintro e w1 ⟨rfl, b1⟩; have z1 := b1.size)
          | (go_at_call 93; (with_reducible refine (CP _).mono ?_); rintro e w2 ⟨rfl, b2⟩; have z2 : w1.heap.size + 1 ≤ w2.heap.size := (by simpa using b2.size); have q20 : w2.cell? ⟨w1.heap.size, 0, none⟩ = some (.int .u64 (hi Q)) := cb b2 (by simp) (by simp); have q21 : w2.cell? ⟨w1.heap.size, 1, none⟩ = some (.int .u64 (lo Q)) := cb b2 (by simp) (by simp); have g20 : w2.frozen? ⟨w1.heap.size, 0, none⟩ = false := fb b2 (by simp) (by simp); have g21 : w2.frozen? ⟨w1.heap.size, 1, none⟩ = false := fb b2 (by simp) (by simp))
          | (go_at_call 94; (with_reducible refine (CH _).mono ?_); rintro e w5 ⟨rfl, b5⟩))
        go_ret
        refine ⟨ret_i64 rfl, ?_⟩
        repeat (first | exact Below.refl _ _ | with_reducible refine ba ?_ _ | with_reducible refine bs ?_ (by omega) _ | with_reducible refine bd ?_ | (with_reducible refine bt ?_ (by assumption)))
      · rw [if_neg hr]
        have CH := hold_any Q true (by omega) (by omega)
        clear bx bd Q1
        have da : decide (a < 0) = false := decide_eq_false (by omega)
        have db : decide (b < 0) = true := decide_eq_true gb
        go_enter Tryz.func146, Tryz.ntmps146
        go_wp2_with (first
          | (go_at_call 89; (with_reducible refine (Cx _).mono ?_); rintro e w' ⟨rfl, rfl⟩)
          | (go_at_call 89; (with_reducible refine (Cd _).mono ?_); rintro e w' ⟨rfl, rfl⟩)
          | (go_at_call 176; (with_reducible refine (CO _).mono ?_); rintro e w1 ⟨rfl, b1⟩; have z1 := b1.size)
          | (go_at_call 94; (with_reducible refine (CH _).mono ?_); rintro e w5 ⟨rfl, b5⟩))
        go_ret
        refine ⟨ret_i64 (by simp [signI]), ?_⟩
        repeat (first | exact Below.refl _ _ | with_reducible refine ba ?_ _ | with_reducible refine bs ?_ (by omega) _ | with_reducible refine bd ?_ | (with_reducible refine bt ?_ (by assumption)))
    · have ga : 0 ≤ a := by omega
      have gb : 0 < b := by omega
      obtain ⟨x, hx⟩ : ∃ x, x = a := ⟨_, rfl⟩
      have Cx := refsize_to a x ((absI_pos ga).trans hx.symm) (by omega) (by omega)
      obtain ⟨d, hd⟩ : ∃ d, d = b := ⟨_, rfl⟩
      have Cd := refsize_to b d ((absI_pos (Int.le_of_lt gb)).trans hd.symm) (by omega) (by omega)
      have bx : 0 ≤ x ∧ x ≤ 9223372036854775808 := by omega
      have bd : 0 < d ∧ d ≤ 9223372036854775808 := by omega
      have CO := over_low x d (by omega) (by omega) (by omega) (by omega)
      have Q0 := quo_le (x := x) (d := d) (by omega) (by omega)
      have R0 := rest_in (x := x) (d := d) (by omega)
      have e : floorQ a b = x / d := by unfold floorQ; rw [if_neg (by omega)]; subst hx; subst hd; rfl
      rw [e]
      clear e hx hd hb
      obtain ⟨Q0, Q1⟩ := Q0
      obtain ⟨R0, R1⟩ := R0
      have Q2 : x / d ≤ 9223372036854775808 := by omega
      generalize x / d = Q at *
      generalize x % d = r at *
      have CH := hold_any Q false (by omega) (by omega)
      clear bx bd Q1
      have da : decide (a < 0) = false := decide_eq_false (by omega)
      have db : decide (b < 0) = false := decide_eq_false (by omega)
      go_enter Tryz.func146, Tryz.ntmps146
      go_wp2_with (first
        | (go_at_call 89; (with_reducible refine (Cx _).mono ?_); rintro e w' ⟨rfl, rfl⟩)
        | (go_at_call 89; (with_reducible refine (Cd _).mono ?_); rintro e w' ⟨rfl, rfl⟩)
        | (go_at_call 176; (with_reducible refine (CO _).mono ?_); rintro e w1 ⟨rfl, b1⟩; have z1 := b1.size)
        | (go_at_call 94; (with_reducible refine (CH _).mono ?_); rintro e w5 ⟨rfl, b5⟩))
      go_ret
      refine ⟨ret_i64 (by simp [signI]), ?_⟩
      repeat (first | exact Below.refl _ _ | with_reducible refine ba ?_ _ | with_reducible refine bs ?_ (by omega) _ | with_reducible refine bd ?_ | (with_reducible refine bt ?_ (by assumption)))
end Go.Proofs.YtaafhjngnjjcmaaGreatDoor

/- Products: the program's, held, and the document's, of 128 bits. -/
namespace Go.Proofs.YtaafhjngnjjcmaaGreatDoor
open Go.RowKit


/-! ### The library's long product, by the shelf's contract, laid here -/
def lays264r : Go.Shelf.Ren := ⟨fun | 264 => 86 | n => n, fun | 53 => 103 | 46 => 139 | n => n, fun | n => n⟩
theorem lays264 : Go.Proofs.Lays.n264 Tryz.prog lays264r := {
  mixed := by kernel_rfl
  f264 := Tryz.func86.trans (congrArg some (by kernel_rfl))
  t46 := Tryz.underlying139
  a46 := Tryz.isAgg139
  z46 := Tryz.sizeOf139
  v46 := Tryz.zeroValue139
  t53 := Tryz.underlying103
  a53 := Tryz.isAgg103
  z53 := Tryz.sizeOf103
  v53 := Tryz.zeroValue103 }
theorem mul64_any (x y : Nat) (hx : x < 18446744073709551616) (hy : y < 18446744073709551616) (w : World) :
    Calls Tryz.prog 86 #[.int .u64 x, .int .u64 y] w fun e w' => e = .returned (.tuple #[.int .u64 ((x * y / 18446744073709551616 : Nat) : Int), .int .u64 ((x * y % 18446744073709551616 : Nat) : Int)]) ∧ w = w' :=
  (Any.bits_Mul64 lays264 x y hx hy w).mono fun _ _ ⟨he, hw⟩ => ⟨he, hw.symm⟩
/-! ### The document's long product -/
/-- What lies in memory at a round's head: the product so far. -/
structure TimesSt (w wr : World) (X : Int) : Prop where
  x0 : wr.cell? ⟨w.heap.size + 1, 0, none⟩ = some (.int .u64 (hi X))
  x1 : wr.cell? ⟨w.heap.size + 1, 1, none⟩ = some (.int .u64 (lo X))
  o0 : ∃ v, wr.cell? ⟨w.heap.size, 0, none⟩ = some v
  o1 : ∃ v, wr.cell? ⟨w.heap.size, 1, none⟩ = some v
  f0 : wr.frozen? ⟨w.heap.size, 0, none⟩ = false
  f1 : wr.frozen? ⟨w.heap.size, 1, none⟩ = false
  f10 : wr.frozen? ⟨w.heap.size + 1, 0, none⟩ = false
  f11 : wr.frozen? ⟨w.heap.size + 1, 1, none⟩ = false
  hz : w.heap.size + 1 < wr.heap.size
  hb : Below w.heap.size w wr
theorem TimesSt.below {w wr w1 : World} {X : Int} (h : TimesSt w wr X) (hb : Below wr.heap.size wr w1) : TimesSt w w1 X := by
  have hz := h.hz
  have hs := hb.size
  obtain ⟨v0, o0⟩ := h.o0
  obtain ⟨v1, o1⟩ := h.o1
  exact ⟨cb hb (by omega) h.x0, cb hb (by omega) h.x1, ⟨v0, cb hb (by omega) o0⟩, ⟨v1, cb hb (by omega) o1⟩, fb hb (by omega) h.f0, fb hb (by omega) h.f1, fb hb (by omega) h.f10, fb hb (by omega) h.f11, by omega, h.hb.trans (hb.mono (by omega))⟩
theorem TimesSt.set {w wr : World} {X X' : Int} (h : TimesSt w wr X) :
    TimesSt w ((wr.setCell ⟨w.heap.size + 1, 0, none⟩ (.int .u64 (hi X'))).setCell ⟨w.heap.size + 1, 1, none⟩ (.int .u64 (lo X'))) X' := by
  obtain ⟨v0, o0⟩ := h.o0
  obtain ⟨v1, o1⟩ := h.o1
  exact ⟨cs (by omega) (cw h.x0), cw (cs (by omega) h.x1), ⟨v0, cs (by omega) (cs (by omega) o0)⟩, ⟨v1, cs (by omega) (cs (by omega) o1)⟩, by simp [h.f0], by simp [h.f1], by simp [h.f10], by simp [h.f11],
    by simpa [World.setCell] using h.hz, (h.hb.setCell (by show _ ≤ w.heap.size + 1; omega) _).setCell (by show _ ≤ w.heap.size + 1; omega) _⟩
theorem times_start (w : World) : TimesSt w ((w.alloc (.cells #[.int .u64 0, .int .u64 0] 141)).alloc (.cells #[.int .u64 0, .int .u64 0] 141)) 0 := by
  have e0 : hi 0 = 0 := rfl
  have e1 : lo 0 = 0 := rfl
  refine ⟨?_, ?_, ⟨.int .u64 0, ?_⟩, ⟨.int .u64 0, ?_⟩, ?_, ?_, ?_, ?_, ?_, below2 _ _ _⟩
  all_goals simp [go_sem, e0, e1]
theorem twice_zero (x : Int) (h0 : 0 ≤ x) (h1 : x < 170141183460469231731687303715884105728) (w : World) :
    Calls Tryz.prog 88 #[.agg #[.int .u64 (hi x), .int .u64 (lo x)], .int .u64 0] w fun e w' => e = .returned (.agg #[.int .u64 (hi (2 * x)), .int .u64 (lo (2 * x))]) ∧ Below w.heap.size w w' := by
  have h := twice_any x 0 h0 h1 (by omega) (by omega) w
  rw [Int.add_zero] at h
  exact h
theorem plus_low (x a : Int) (h0 : 0 ≤ x) (a0 : 0 ≤ a) (a1 : a < 18446744073709551616) (h1 : x + a < 340282366920938463463374607431768211456) (w : World) :
    Calls Tryz.prog 93 #[.agg #[.int .u64 (hi x), .int .u64 (lo x)], .agg #[.int .u64 0, .int .u64 a]] w fun e w' => e = .returned (.agg #[.int .u64 (hi (x + a)), .int .u64 (lo (x + a))]) ∧ Below w.heap.size w w' := by
  have h := plus_any x a h0 a0 h1 w
  rw [hi_small a0 a1, lo_small a0 a1] at h
  exact h
theorem times_step (a b : Int) (k : Nat) : a * (b / 2 ^ k) = 2 * (a * (b / 2 ^ (k + 1))) + a * bitI b k := by
  rw [half_pow b k, Int.mul_add, Int.mul_left_comm]
theorem times_lt {a b : Int} (k : Nat) (a0 : 0 ≤ a) (a1 : a < 18446744073709551616) (b0 : 0 ≤ b) (b1 : b < 18446744073709551616) : 0 ≤ a * (b / 2 ^ (k + 1)) ∧ a * (b / 2 ^ (k + 1)) ≤ 170141183460469231704017187605319778305 := by
  have q0 : 0 ≤ b / 2 ^ (k + 1) := Int.ediv_nonneg b0 (Int.le_of_lt (pow2_pos _))
  have q1 : b / 2 ^ (k + 1) ≤ 9223372036854775807 := by
    have e : b / 2 ^ (k + 1) = b / 2 / 2 ^ k := by
      have e2 : (2 : Int) ^ (k + 1) = 2 * 2 ^ k := by rw [Int.pow_succ, Int.mul_comm]
      rw [e2, Int.ediv_ediv_of_nonneg (by decide)]
    have := Int.ediv_le_self (a := b / 2) (2 ^ k) (by omega)
    omega
  refine ⟨Int.mul_nonneg a0 q0, ?_⟩
  have := Int.mul_le_mul (show a ≤ 18446744073709551615 by omega) q1 q0 (by omega)
  omega
set_option maxHeartbeats 1000000 in
theorem times_any (a b : Int) (a0 : 0 ≤ a) (a1 : a < 18446744073709551616) (b0 : 0 ≤ b) (b1 : b < 18446744073709551616) (w : World) :
    Calls Tryz.prog 150 #[.int .u64 a, .int .u64 b] w fun e w' => e = .returned (.agg #[.int .u64 (hi (a * b)), .int .u64 (lo (a * b))]) ∧ Below w.heap.size w w' := by
  go_enter Tryz.func150, Tryz.ntmps150
  go_wp2
  go_loopw [6] (fun i wr => ∃ j : Nat, j ≤ 64 ∧ i = .int .i64 ((j : Int) - 1) ∧ TimesSt w wr (a * (b / 2 ^ j))) (fun i _ => (intOf i + 1).toNat)
  case atStart =>
    refine ⟨64, by omega, rfl, ?_⟩
    rw [show b / 2 ^ 64 = 0 from Int.ediv_eq_zero_of_lt b0 (by simpa using b1), Int.mul_zero]
    exact times_start w
  case round =>
    obtain ⟨j, hj, rfl, hst⟩ := hrel
    by_cases hj0 : j = 0
    · subst hj0
      have ST := hide hst
      obtain ⟨x0, x1, ⟨v0, o0⟩, ⟨v1, o1⟩, f0, f1, f10, f11, hz, hb⟩ := hst
      clear hb
      go_wp2
      refine bodyPost_ret (v := .agg #[.int .u64 (hi (a * b)), .int .u64 (lo (a * b))]) (by simp [results, Tryz.results150, go_sem, o0, o1]) rfl ⟨rfl, ?_⟩
      exact (ST.out.hb.setCell (by show _ ≤ w.heap.size; omega) _).setCell (by show _ ≤ w.heap.size; omega) _
    · obtain ⟨k, rfl⟩ : ∃ k, j = k + 1 := ⟨j - 1, by omega⟩
      have es := times_step a b k
      have lt := times_lt k a0 a1 b0 b1
      have bb0 := bitI0 b k
      have bb1 := bitI1 b k
      have ek : ((k + 1 : Nat) : Int) - 1 = (k : Int) := by omega
      rw [ek]
      clear ek
      generalize a * (b / 2 ^ (k + 1)) = X at *
      have ES := hide es
      clear es
      have ST := hide hst
      obtain ⟨x0, x1, ⟨v0, o0⟩, ⟨v1, o1⟩, f0, f1, f10, f11, hz, hb⟩ := hst
      clear hb o0 o1 f0 f1
      have CT := twice_zero X lt.1 (by omega)
      have CP := plus_low (2 * X) a (by omega) a0 a1 (by omega)
      obtain ⟨lt0, lt1⟩ := lt
      have eb : bits .and .u64 (b / 2 ^ k) 1 = bitI b k := and_one _ (Int.ediv_nonneg b0 (Int.le_of_lt (pow2_pos _))) (div_pow_lt _ b0 b1)
      by_cases hbit : bitI b k = 1
      · have ht : (bits .and .u64 (b / 2 ^ k) 1 == 1) = true := by rw [eb, hbit]; rfl
        have EB := hide hbit
        clear eb hbit
        go_wp2_with (first
          | (go_at_call 88; (with_reducible refine (CT _).mono ?_); rintro e w3 ⟨rfl, hb3⟩; have q3 := cb hb3 (by omega) x0; have q4 := cb hb3 (by omega) x1; have t3 := fb hb3 (by omega) f10; have t4 := fb hb3 (by omega) f11;
              have T3 := hide (TimesSt.set (X' := 2 * X) (ST.out.below hb3)))
          | (go_at_call 93; (with_reducible refine (CP _).mono ?_); rintro e w4 ⟨rfl, hb4⟩;
              have T4 := hide (T3.out.below hb4); have y0 := T4.out.x0; have y1 := T4.out.x1; have y2 := T4.out.f10; have y3 := T4.out.f11))
        go_roundw
        case rel => exact ⟨k, by omega, rfl, by rw [ES.out, EB.out, Int.mul_one]; exact T4.out.set⟩
        case measure => simp [intOf]
      · have hb0 : bitI b k = 0 := by omega
        have ht : (bits .and .u64 (b / 2 ^ k) 1 == 1) = false := by rw [eb, hb0]; rfl
        have EB := hide hb0
        clear eb hbit hb0
        go_wp2_with (first
          | (go_at_call 88; (with_reducible refine (CT _).mono ?_); rintro e w3 ⟨rfl, hb3⟩; have q3 := cb hb3 (by omega) x0; have q4 := cb hb3 (by omega) x1; have t3 := fb hb3 (by omega) f10; have t4 := fb hb3 (by omega) f11))
        go_roundw
        case rel => exact ⟨k, by omega, rfl, by rw [ES.out, EB.out, Int.mul_zero, Int.add_zero]; exact (ST.out.below hb3).set⟩
        case measure => simp [intOf]
end Go.Proofs.YtaafhjngnjjcmaaGreatDoor

/- A number of 128 bits that lies in a block of the call's own: what calls, stores and new blocks leave of it. -/
namespace Go.Proofs.YtaafhjngnjjcmaaGreatDoor
open Go.RowKit


structure BigAt (w : World) (b : Nat) (X : Int) : Prop where
  c0 : w.cell? ⟨b, 0, none⟩ = some (.int .u64 (hi X))
  c1 : w.cell? ⟨b, 1, none⟩ = some (.int .u64 (lo X))
  f0 : w.frozen? ⟨b, 0, none⟩ = false
  f1 : w.frozen? ⟨b, 1, none⟩ = false
  lt : b < w.heap.size
theorem BigAt.below {w w1 : World} {b : Nat} {X : Int} (h : BigAt w b X) (hb : Below w.heap.size w w1) : BigAt w1 b X :=
  ⟨cb hb h.lt h.c0, cb hb h.lt h.c1, fb hb h.lt h.f0, fb hb h.lt h.f1, Nat.lt_of_lt_of_le h.lt hb.size⟩
theorem BigAt.drew {w : World} {b : Nat} {X : Int} (h : BigAt w b X) : BigAt w.drew b X := ⟨h.c0, h.c1, h.f0, h.f1, h.lt⟩
theorem BigAt.alloc {w : World} {b : Nat} {X : Int} (h : BigAt w b X) (o : Obj) : BigAt (w.alloc o) b X :=
  ⟨ca h.lt h.c0, ca h.lt h.c1, fa h.lt h.f0, fa h.lt h.f1, by have := h.lt; simp; omega⟩
theorem BigAt.new (w : World) {h l X : Int} (eh : h = hi X) (el : l = lo X) (t : TypeId) : BigAt (w.alloc (.cells #[.int .u64 h, .int .u64 l] t)) w.heap.size X := by
  subst eh; subst el
  exact ⟨by simp, by simp, by simp, by simp, by simp⟩
theorem BigAt.set {w : World} {b : Nat} {X : Int} (X' : Int) (h : BigAt w b X) : BigAt ((w.setCell ⟨b, 0, none⟩ (.int .u64 (hi X'))).setCell ⟨b, 1, none⟩ (.int .u64 (lo X'))) b X' :=
  ⟨cs (by omega) (cw h.c0), cw (cs (by omega) h.c1), by simp [h.f0], by simp [h.f1], by simpa [World.setCell] using h.lt⟩
theorem BigAt.far {w : World} {b b' o o' : Nat} {X : Int} {u v : Value} (h : BigAt w b X) (hne : b' ≠ b) : BigAt ((w.setCell ⟨b', o, none⟩ u).setCell ⟨b', o', none⟩ v) b X :=
  ⟨cs (by omega) (cs (by omega) h.c0), cs (by omega) (cs (by omega) h.c1), by simp [h.f0], by simp [h.f1], by simpa [World.setCell] using h.lt⟩
/-! ### The plain arithmetic of a shift -/
theorem near_pow (x : Int) (m : Nat) : nearQ x (2 ^ (m + 1)) = (x / 2 ^ m + 1) / 2 := by
  have p := pow2_pos m
  have e : (2 : Int) ^ (m + 1) = 2 * 2 ^ m := by rw [Int.pow_succ, Int.mul_comm]
  unfold nearQ
  rw [if_neg (by omega), e, ← Int.mul_add, Int.mul_ediv_mul_of_pos _ _ (by decide), Int.mul_comm 2 (2 ^ m), ← Int.ediv_ediv_of_nonneg (Int.le_of_lt p), Int.add_ediv_of_dvd_right (Int.dvd_refl _), Int.ediv_self (Int.ne_of_gt p)]
/-- What is left of a number when its bits from n to i are taken away. -/
def restI (M : Int) (n i : Nat) : Int := M % 2 ^ n + 2 ^ i * (M / 2 ^ i)
theorem rest_start (M : Int) (n : Nat) : restI M n n = M := by unfold restI; rw [Int.add_comm]; exact Int.mul_ediv_add_emod M (2 ^ n)
theorem rest_end {M : Int} (n : Nat) (h0 : 0 ≤ M) (h1 : M < 340282366920938463463374607431768211456) : restI M n 128 = M % 2 ^ n := by
  unfold restI; rw [div_pow_all h0 h1, Int.mul_zero, Int.add_zero]
theorem rest_step (M : Int) (n i : Nat) : restI M n i = restI M n (i + 1) + 2 ^ i * bitI M i := by
  unfold restI
  have e : (2 : Int) ^ (i + 1) = 2 ^ i * 2 := Int.pow_succ _ _
  rw [half_pow M i, Int.mul_add, e]
  rw [show (2 : Int) ^ i * (2 * (M / (2 ^ i * 2))) = 2 ^ i * 2 * (M / (2 ^ i * 2)) by rw [Int.mul_assoc]]
  omega
theorem rest_in2 {M : Int} (n i : Nat) (h0 : 0 ≤ M) : 0 ≤ restI M n i := by
  unfold restI
  have := Int.emod_nonneg M (Int.ne_of_gt (pow2_pos n))
  have := Int.mul_nonneg (Int.le_of_lt (pow2_pos i)) (Int.ediv_nonneg h0 (Int.le_of_lt (pow2_pos i)))
  omega
theorem rest_le {M : Int} (n i : Nat) (h0 : 0 ≤ M) : restI M n i ≤ 2 * M := by
  unfold restI
  have e := Int.mul_ediv_add_emod M (2 ^ i)
  have r := Int.emod_nonneg M (Int.ne_of_gt (pow2_pos i))
  have a : M % 2 ^ n ≤ M := by
    have e2 := Int.mul_ediv_add_emod M (2 ^ n)
    have := Int.mul_nonneg (Int.le_of_lt (pow2_pos n)) (Int.ediv_nonneg h0 (Int.le_of_lt (pow2_pos n)))
    omega
  omega
theorem rest_bit {M : Int} (n i : Nat) (h0 : 0 ≤ M) (h : bitI M i = 1) : 2 ^ i ≤ restI M n i ∧ restI M n i - 2 ^ i = restI M n (i + 1) := by
  have e := rest_step M n i
  rw [h, Int.mul_one] at e
  have := rest_in2 n (i + 1) h0
  omega
/-- What a shift comes to. -/
theorem shift_res {x M : Int} {N : Nat} (hM : absI x = M) (h0 : -9223372036854775808 ≤ x) (h1 : x ≤ 9223372036854775807) (hN : N ≤ 63) :
    (0 ≤ x → shiftF x ((N : Int) + 1) = holdI (M / 2 ^ (N + 1) + if 2 ^ N ≤ M % 2 ^ (N + 1) then 1 else 0)) ∧
    (x < 0 → shiftF x ((N : Int) + 1) = holdI (-(M / 2 ^ (N + 1) + if 2 ^ N < M % 2 ^ (N + 1) then 1 else 0))) := by
  have hb := pow2_pos (N + 1)
  have ee : (2 : Int) ^ (N + 1) = 2 * 2 ^ N := by rw [Int.pow_succ, Int.mul_comm]
  by_cases hs : N ≤ 62
  · have e0 : shiftF x ((N : Int) + 1) = nearQ x (2 ^ (N + 1)) := by
      rw [near_pow]; unfold shiftF; rw [if_neg (by omega), if_neg (by omega)]
      have : ((N : Int) + 1).toNat - 1 = N := by omega
      rw [this]
    have hin := shift_in N h0 h1
    rw [← near_pow] at hin
    refine ⟨fun h => ?_, fun h => ?_⟩
    · have e1 : nearQ x (2 ^ (N + 1)) = M / 2 ^ (N + 1) + if 2 ^ N ≤ M % 2 ^ (N + 1) then 1 else 0 := by
        rw [absI_pos h] at hM
        subst hM
        unfold nearQ
        rw [if_neg (by omega), near_up hb]
        congr 1
        by_cases c : (2 : Int) ^ N ≤ x % 2 ^ (N + 1)
        · rw [if_pos c, if_pos (by omega)]
        · rw [if_neg c, if_neg (by omega)]
      rw [e0, ← e1, holdI_in hin.1 hin.2]
    · have e1 : nearQ x (2 ^ (N + 1)) = -(M / 2 ^ (N + 1) + if 2 ^ N < M % 2 ^ (N + 1) then 1 else 0) := by
        rw [absI_neg h] at hM
        obtain rfl : x = -M := by omega
        unfold nearQ
        rw [if_neg (by omega), near_below hb]
        congr 2
        by_cases c : (2 : Int) ^ N < M % 2 ^ (N + 1)
        · rw [if_pos c, if_pos (by omega)]
        · rw [if_neg c, if_neg (by omega)]
      rw [e0, ← e1, holdI_in hin.1 hin.2]
  · obtain rfl : N = 63 := by omega
    have M0 : 0 ≤ M := hM ▸ absI0 x
    have M1 : M ≤ 9223372036854775808 := hM ▸ absI1 h0 (by omega)
    have p64 : (2 : Int) ^ (63 + 1) = 18446744073709551616 := by decide
    have p63 : (2 : Int) ^ 63 = 9223372036854775808 := by decide
    have e0 : shiftF x (((63 : Nat) : Int) + 1) = 0 := by unfold shiftF; rw [if_neg (by omega), if_pos (by omega)]
    rw [e0, p64, p63, Int.ediv_eq_zero_of_lt M0 (by omega), Int.emod_eq_of_lt M0 (by omega)]
    refine ⟨fun h => ?_, fun h => ?_⟩
    · rw [absI_pos h] at hM
      rw [if_neg (by omega)]; decide
    · rw [if_neg (by omega)]; decide
theorem pow2_lt {i : Nat} (h : i ≤ 127) : (2 : Int) ^ i ≤ 170141183460469231731687303715884105728 := by
  have : (2 : Int) ^ i ≤ 2 ^ 127 := by exact_mod_cast Nat.pow_le_pow_right (by decide) h
  simpa using this
theorem pow2_lt6 {i : Nat} (h : i ≤ 126) : (2 : Int) ^ i < 170141183460469231731687303715884105728 := by
  have : (2 : Int) ^ i ≤ 2 ^ 126 := by exact_mod_cast Nat.pow_le_pow_right (by decide) h
  have e : (2 : Int) ^ 126 = 85070591730234615865843651857942052864 := by decide
  omega
theorem pow2_succ (i : Nat) : (2 : Int) ^ (i + 1) = 2 * 2 ^ i := by rw [Int.pow_succ, Int.mul_comm]
end Go.Proofs.YtaafhjngnjjcmaaGreatDoor
