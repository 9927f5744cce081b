/- Parts, joined. -/
import Derived.Test.YtdpkigdfhfippaaGreatDoorJ02
/- The rounded quotients of the document's answers (layer 1). -/
namespace Go.Proofs.YtdpkigdfhfippaaGreatDoor
open Go.RowKit


theorem bt {a w w1 : World} (h : Below a.heap.size a w) (b : Below w.heap.size w w1) : Below a.heap.size a w1 := h.trans (b.mono h.size)
theorem ba {a w : World} (h : Below a.heap.size a w) (o : Obj) : Below a.heap.size a (w.alloc o) := h.alloc h.size o
theorem bs {a w : World} {b o : Nat} (h : Below a.heap.size a w) (hp : a.heap.size ≤ b) (u : Value) : Below a.heap.size a (w.setCell ⟨b, o, none⟩ u) := h.setCell (p := ⟨b, o, none⟩) hp u
theorem bd {a w : World} (h : Below a.heap.size a w) : Below a.heap.size a w.drew := h.drew
theorem ca {w : World} {b o : Nat} {v : Value} {ob : Obj} (h : b < w.heap.size) (hc : w.cell? ⟨b, o, none⟩ = some v) : (w.alloc ob).cell? ⟨b, o, none⟩ = some v := (World.cell?_alloc_past ob b o h).trans hc
theorem fa {w : World} {b o : Nat} {ob : Obj} (h : b < w.heap.size) (hc : w.frozen? ⟨b, o, none⟩ = false) : (w.alloc ob).frozen? ⟨b, o, none⟩ = false := (World.frozen?_alloc_past ob b o h).trans hc
theorem twice_low (r : Int) (h0 : 0 ≤ r) (h1 : r < 18446744073709551616) (w : World) :
    Calls Tryz.prog 105 #[.agg #[.int .u64 0, .int .u64 r], .int .u64 0] w fun e w' => e = .returned (.agg #[.int .u64 (hi (2 * r)), .int .u64 (lo (2 * r))]) ∧ Below w.heap.size w w' := by
  have h := twice_any r 0 h0 (by omega) (by omega) (by omega) w
  rw [hi_small h0 h1, lo_small h0 h1, Int.add_zero] at h
  exact h
theorem low_less (x y h l : Int) (eh : h = hi x) (el : l = lo x) (b : Bool) (hb : decide (x < y) = b) (h0 : 0 ≤ x) (k0 : 0 ≤ y) (h1 : x < 340282366920938463463374607431768211456) (k1 : y < 340282366920938463463374607431768211456) (w : World) :
    Calls Tryz.prog 108 #[.agg #[.int .u64 h, .int .u64 l], .agg #[.int .u64 (hi y), .int .u64 (lo y)]] w fun e w' => e = .returned (.bool b) ∧ Below w.heap.size w w' := by
  subst eh; subst el; subst hb
  exact less_any x y h0 k0 h1 k1 w
theorem less_low (x y h l : Int) (eh : h = hi y) (el : l = lo y) (b : Bool) (hb : decide (x < y) = b) (h0 : 0 ≤ x) (k0 : 0 ≤ y) (h1 : x < 340282366920938463463374607431768211456) (k1 : y < 340282366920938463463374607431768211456) (w : World) :
    Calls Tryz.prog 108 #[.agg #[.int .u64 (hi x), .int .u64 (lo x)], .agg #[.int .u64 h, .int .u64 l]] w fun e w' => e = .returned (.bool b) ∧ Below w.heap.size w w' := by
  subst eh; subst el; subst hb
  exact less_any x y h0 k0 h1 k1 w
theorem plus_one (x : Int) (h0 : 0 ≤ x) (h1 : x + 1 < 340282366920938463463374607431768211456) (w : World) :
    Calls Tryz.prog 103 #[.agg #[.int .u64 (hi x), .int .u64 (lo x)], .agg #[.int .u64 0, .int .u64 1]] w fun e w' => e = .returned (.agg #[.int .u64 (hi (x + 1)), .int .u64 (lo (x + 1))]) ∧ Below w.heap.size w w' :=
  plus_any x 1 h0 (by omega) h1 w
theorem hiz (d : Int) (h0 : 0 ≤ d) (h1 : d < 18446744073709551616) : 0 = hi d := (hi_small h0 h1).symm
theorem loz (d : Int) (h0 : 0 ≤ d) (h1 : d < 18446744073709551616) : d = lo d := (lo_small h0 h1).symm
set_option maxHeartbeats 1000000 in
theorem near_false (x d : Int) (h0 : 0 ≤ x) (h1 : x < 170141183460469231731687303715884105728) (d0 : 0 < d) (d1 : d < 18446744073709551616) (w : World) :
    Calls Tryz.prog 85 #[.agg #[.int .u64 (hi x), .int .u64 (lo x)], .int .u64 d, .bool false] w fun e w' =>
      e = .returned (.int .i64 (holdI (x / d + if d ≤ 2 * (x % d) then 1 else 0))) ∧ Below w.heap.size w w' := by
  have Q0 : 0 ≤ x / d := Int.ediv_nonneg h0 (by omega)
  have Q1 : x / d < 170141183460469231731687303715884105728 := Int.lt_of_le_of_lt (Int.ediv_le_self _ h0) h1
  have R0 : 0 ≤ x % d := Int.emod_nonneg _ (by omega)
  have R1 : x % d < d := Int.emod_lt_of_pos _ d0
  have CO := over_any x d h0 (by omega) d0 d1
  generalize x / d = Q at *
  generalize x % d = R at *
  have CT := twice_low R R0 (by omega)
  clear h0 h1
  by_cases hc : d ≤ 2 * R
  · have CL := less_low (2 * R) d 0 d (hiz d (by omega) d1) (loz d (by omega) d1) false (decide_eq_false (by omega)) (by omega) (by omega) (by omega) (by omega)
    have CP := plus_one Q Q0 (by omega)
    have CH := hold_any (Q + 1) false (by omega) (by omega)
    rw [if_pos hc]
    go_enter Tryz.func85, Tryz.ntmps85
    go_wp2_with (first
      | (go_at_call 102; (with_reducible refine (CO _).mono ?_); rintro e w1 ⟨rfl, b1⟩; have z1 : w.heap.size + 1 ≤ w1.heap.size := (by simpa using b1.size))
      | (go_at_call 105; (with_reducible refine (CT _).mono ?_); rintro e w2 ⟨rfl, b2⟩; have z2 : w1.heap.size + 1 ≤ w2.heap.size := (by simpa using b2.size); have q20 : w2.cell? ⟨w1.heap.size, 0, none⟩ = some (.int .u64 (hi Q)) := cb b2 (by simp) (by simp); have q21 : w2.cell? ⟨w1.heap.size, 1, none⟩ = some (.int .u64 (lo Q)) := cb b2 (by simp) (by simp); have g20 : w2.frozen? ⟨w1.heap.size, 0, none⟩ = false := fb b2 (by simp) (by simp); have g21 : w2.frozen? ⟨w1.heap.size, 1, none⟩ = false := fb b2 (by simp) (by simp))
      | (go_at_call 108; (with_reducible refine (CL _).mono ?_); rintro e w3 ⟨rfl, b3⟩; have z3 : w2.heap.size + 1 ≤ w3.heap.size := (by simpa using b3.size); have q30 := cb b3 (by simp; omega) (ca (by omega) q20); have g30 := fb b3 (by simp; omega) (fa (by omega) g20); have q31 := cb b3 (by simp; omega) (ca (by omega) q21); have g31 := fb b3 (by simp; omega) (fa (by omega) g21); have t30 : w3.cell? ⟨w2.heap.size, 0, none⟩ = some (.int .u64 (hi (2 * R))) := cb b3 (by simp) (by simp); have t31 : w3.cell? ⟨w2.heap.size, 1, none⟩ = some (.int .u64 (lo (2 * R))) := cb b3 (by simp) (by simp))
      | (go_at_call 103; (with_reducible refine (CP _).mono ?_); rintro e w4 ⟨rfl, b4⟩; have z4 : w3.heap.size ≤ w4.heap.size := b4.size; have q40 := cb b4 (by omega) q30; have g40 := fb b4 (by omega) g30; have q41 := cb b4 (by omega) q31; have g41 := fb b4 (by omega) g31)
      | (go_at_call 104; (with_reducible refine (CH _).mono ?_); rintro e w5 ⟨rfl, b5⟩))
    go_ret
    refine ⟨ret_i64 rfl, ?_⟩
    repeat (first | exact Below.refl _ _ | with_reducible refine ba ?_ _ | with_reducible refine bs ?_ (by omega) _ | with_reducible refine bd ?_ | (with_reducible refine bt ?_ (by assumption)))
  · have CL := less_low (2 * R) d 0 d (hiz d (by omega) d1) (loz d (by omega) d1) true (decide_eq_true (by omega)) (by omega) (by omega) (by omega) (by omega)
    have CH := hold_any Q false (by omega) (by omega)
    rw [if_neg hc]
    go_enter Tryz.func85, Tryz.ntmps85
    go_wp2_with (first
      | (go_at_call 102; (with_reducible refine (CO _).mono ?_); rintro e w1 ⟨rfl, b1⟩; have z1 : w.heap.size + 1 ≤ w1.heap.size := (by simpa using b1.size))
      | (go_at_call 105; (with_reducible refine (CT _).mono ?_); rintro e w2 ⟨rfl, b2⟩; have z2 : w1.heap.size + 1 ≤ w2.heap.size := (by simpa using b2.size); have q20 : w2.cell? ⟨w1.heap.size, 0, none⟩ = some (.int .u64 (hi Q)) := cb b2 (by simp) (by simp); have q21 : w2.cell? ⟨w1.heap.size, 1, none⟩ = some (.int .u64 (lo Q)) := cb b2 (by simp) (by simp); have g20 : w2.frozen? ⟨w1.heap.size, 0, none⟩ = false := fb b2 (by simp) (by simp); have g21 : w2.frozen? ⟨w1.heap.size, 1, none⟩ = false := fb b2 (by simp) (by simp))
      | (go_at_call 108; (with_reducible refine (CL _).mono ?_); rintro e w3 ⟨rfl, b3⟩; have z3 : w2.heap.size + 1 ≤ w3.heap.size := (by simpa using b3.size); have q30 := cb b3 (by simp; omega) (ca (by omega) q20); have g30 := fb b3 (by simp; omega) (fa (by omega) g20); have q31 := cb b3 (by simp; omega) (ca (by omega) q21); have g31 := fb b3 (by simp; omega) (fa (by omega) g21); have t30 : w3.cell? ⟨w2.heap.size, 0, none⟩ = some (.int .u64 (hi (2 * R))) := cb b3 (by simp) (by simp); have t31 : w3.cell? ⟨w2.heap.size, 1, none⟩ = some (.int .u64 (lo (2 * R))) := cb b3 (by simp) (by simp))
      | (go_at_call 104; (with_reducible refine (CH _).mono ?_); rintro e w4 ⟨rfl, b4⟩))
    go_ret
    refine ⟨ret_i64 (by simp [signI]), ?_⟩
    repeat (first | exact Below.refl _ _ | with_reducible refine ba ?_ _ | with_reducible refine bs ?_ (by omega) _ | with_reducible refine bd ?_ | (with_reducible refine bt ?_ (by assumption)))
set_option maxHeartbeats 1000000 in
theorem near_true (x d : Int) (h0 : 0 ≤ x) (h1 : x < 170141183460469231731687303715884105728) (d0 : 0 < d) (d1 : d < 18446744073709551616) (w : World) :
    Calls Tryz.prog 85 #[.agg #[.int .u64 (hi x), .int .u64 (lo x)], .int .u64 d, .bool true] w fun e w' =>
      e = .returned (.int .i64 (holdI (-(x / d + if d < 2 * (x % d) then 1 else 0)))) ∧ Below w.heap.size w w' := by
  have Q0 : 0 ≤ x / d := Int.ediv_nonneg h0 (by omega)
  have Q1 : x / d < 170141183460469231731687303715884105728 := Int.lt_of_le_of_lt (Int.ediv_le_self _ h0) h1
  have R0 : 0 ≤ x % d := Int.emod_nonneg _ (by omega)
  have R1 : x % d < d := Int.emod_lt_of_pos _ d0
  have CO := over_any x d h0 (by omega) d0 d1
  generalize x / d = Q at *
  generalize x % d = R at *
  have CT := twice_low R R0 (by omega)
  clear h0 h1
  by_cases hc : d < 2 * R
  · have CL := less_low (2 * R) d 0 d (hiz d (by omega) d1) (loz d (by omega) d1) false (decide_eq_false (by omega)) (by omega) (by omega) (by omega) (by omega)
    have CM := low_less d (2 * R) 0 d (hiz d (by omega) d1) (loz d (by omega) d1) true (decide_eq_true (by omega)) (by omega) (by omega) (by omega) (by omega)
    have CP := plus_one Q Q0 (by omega)
    have CH := hold_any (Q + 1) true (by omega) (by omega)
    rw [if_pos hc]
    go_enter Tryz.func85, Tryz.ntmps85
    go_wp2_with (first
      | (go_at_call 102; (with_reducible refine (CO _).mono ?_); rintro e w1 ⟨rfl, b1⟩; have z1 : w.heap.size + 1 ≤ w1.heap.size := (by simpa using b1.size))
      | (go_at_call 105; (with_reducible refine (CT _).mono ?_); rintro e w2 ⟨rfl, b2⟩; have z2 : w1.heap.size + 1 ≤ w2.heap.size := (by simpa using b2.size); have q20 : w2.cell? ⟨w1.heap.size, 0, none⟩ = some (.int .u64 (hi Q)) := cb b2 (by simp) (by simp); have q21 : w2.cell? ⟨w1.heap.size, 1, none⟩ = some (.int .u64 (lo Q)) := cb b2 (by simp) (by simp); have g20 : w2.frozen? ⟨w1.heap.size, 0, none⟩ = false := fb b2 (by simp) (by simp); have g21 : w2.frozen? ⟨w1.heap.size, 1, none⟩ = false := fb b2 (by simp) (by simp))
      | (go_at_call 108; (with_reducible refine (CL _).mono ?_); rintro e w3 ⟨rfl, b3⟩; have z3 : w2.heap.size + 1 ≤ w3.heap.size := (by simpa using b3.size); have q30 := cb b3 (by simp; omega) (ca (by omega) q20); have g30 := fb b3 (by simp; omega) (fa (by omega) g20); have q31 := cb b3 (by simp; omega) (ca (by omega) q21); have g31 := fb b3 (by simp; omega) (fa (by omega) g21); have t30 : w3.cell? ⟨w2.heap.size, 0, none⟩ = some (.int .u64 (hi (2 * R))) := cb b3 (by simp) (by simp); have t31 : w3.cell? ⟨w2.heap.size, 1, none⟩ = some (.int .u64 (lo (2 * R))) := cb b3 (by simp) (by simp))
      | (go_at_call 108; (with_reducible refine (CM _).mono ?_); rintro e w4 ⟨rfl, b4⟩; have z4 : w3.heap.size ≤ w4.heap.size := b4.size; have q40 := cb b4 (by omega) q30; have g40 := fb b4 (by omega) g30; have q41 := cb b4 (by omega) q31; have g41 := fb b4 (by omega) g31)
      | (go_at_call 103; (with_reducible refine (CP _).mono ?_); rintro e w5 ⟨rfl, b5⟩; have z5 : w4.heap.size ≤ w5.heap.size := b5.size; have q50 := cb b5 (by omega) q40; have g50 := fb b5 (by omega) g40; have q51 := cb b5 (by omega) q41; have g51 := fb b5 (by omega) g41)
      | (go_at_call 104; (with_reducible refine (CH _).mono ?_); rintro e w6 ⟨rfl, b6⟩))
    go_ret
    refine ⟨ret_i64 rfl, ?_⟩
    repeat (first | exact Below.refl _ _ | with_reducible refine ba ?_ _ | with_reducible refine bs ?_ (by omega) _ | with_reducible refine bd ?_ | (with_reducible refine bt ?_ (by assumption)))
  · by_cases he : d = 2 * R
    · have he' : d ≤ 2 * R := by omega
      clear he
      have CL := less_low (2 * R) d 0 d (hiz d (by omega) d1) (loz d (by omega) d1) false (decide_eq_false (by omega)) (by omega) (by omega) (by omega) (by omega)
      have CM := low_less d (2 * R) 0 d (hiz d (by omega) d1) (loz d (by omega) d1) false (decide_eq_false (by omega)) (by omega) (by omega) (by omega) (by omega)
      have CH := hold_any Q true (by omega) (by omega)
      rw [if_neg hc]
      go_enter Tryz.func85, Tryz.ntmps85
      go_wp2_with (first
        | (go_at_call 102; (with_reducible refine (CO _).mono ?_); rintro e w1 ⟨rfl, b1⟩; have z1 : w.heap.size + 1 ≤ w1.heap.size := (by simpa using b1.size))
        | (go_at_call 105; (with_reducible refine (CT _).mono ?_); rintro e w2 ⟨rfl, b2⟩; have z2 : w1.heap.size + 1 ≤ w2.heap.size := (by simpa using b2.size); have q20 : w2.cell? ⟨w1.heap.size, 0, none⟩ = some (.int .u64 (hi Q)) := cb b2 (by simp) (by simp); have q21 : w2.cell? ⟨w1.heap.size, 1, none⟩ = some (.int .u64 (lo Q)) := cb b2 (by simp) (by simp); have g20 : w2.frozen? ⟨w1.heap.size, 0, none⟩ = false := fb b2 (by simp) (by simp); have g21 : w2.frozen? ⟨w1.heap.size, 1, none⟩ = false := fb b2 (by simp) (by simp))
        | (go_at_call 108; (with_reducible refine (CL _).mono ?_); rintro e w3 ⟨rfl, b3⟩; have z3 : w2.heap.size + 1 ≤ w3.heap.size := (by simpa using b3.size); have q30 := cb b3 (by simp; omega) (ca (by omega) q20); have g30 := fb b3 (by simp; omega) (fa (by omega) g20); have q31 := cb b3 (by simp; omega) (ca (by omega) q21); have g31 := fb b3 (by simp; omega) (fa (by omega) g21); have t30 : w3.cell? ⟨w2.heap.size, 0, none⟩ = some (.int .u64 (hi (2 * R))) := cb b3 (by simp) (by simp); have t31 : w3.cell? ⟨w2.heap.size, 1, none⟩ = some (.int .u64 (lo (2 * R))) := cb b3 (by simp) (by simp))
        | (go_at_call 108; (with_reducible refine (CM _).mono ?_); rintro e w4 ⟨rfl, b4⟩; have z4 : w3.heap.size ≤ w4.heap.size := b4.size; have q40 := cb b4 (by omega) q30; have g40 := fb b4 (by omega) g30; have q41 := cb b4 (by omega) q31; have g41 := fb b4 (by omega) g31)
        | (go_at_call 104; (with_reducible refine (CH _).mono ?_); rintro e w5 ⟨rfl, b5⟩))
      go_ret
      refine ⟨ret_i64 (by simp [signI]), ?_⟩
      repeat (first | exact Below.refl _ _ | with_reducible refine ba ?_ _ | with_reducible refine bs ?_ (by omega) _ | with_reducible refine bd ?_ | (with_reducible refine bt ?_ (by assumption)))
    · have CL := less_low (2 * R) d 0 d (hiz d (by omega) d1) (loz d (by omega) d1) true (decide_eq_true (by omega)) (by omega) (by omega) (by omega) (by omega)
      have CM := low_less d (2 * R) 0 d (hiz d (by omega) d1) (loz d (by omega) d1) false (decide_eq_false (by omega)) (by omega) (by omega) (by omega) (by omega)
      have CH := hold_any Q true (by omega) (by omega)
      rw [if_neg hc]
      go_enter Tryz.func85, Tryz.ntmps85
      go_wp2_with (first
        | (go_at_call 102; (with_reducible refine (CO _).mono ?_); rintro e w1 ⟨rfl, b1⟩; have z1 : w.heap.size + 1 ≤ w1.heap.size := (by simpa using b1.size))
        | (go_at_call 105; (with_reducible refine (CT _).mono ?_); rintro e w2 ⟨rfl, b2⟩; have z2 : w1.heap.size + 1 ≤ w2.heap.size := (by simpa using b2.size); have q20 : w2.cell? ⟨w1.heap.size, 0, none⟩ = some (.int .u64 (hi Q)) := cb b2 (by simp) (by simp); have q21 : w2.cell? ⟨w1.heap.size, 1, none⟩ = some (.int .u64 (lo Q)) := cb b2 (by simp) (by simp); have g20 : w2.frozen? ⟨w1.heap.size, 0, none⟩ = false := fb b2 (by simp) (by simp); have g21 : w2.frozen? ⟨w1.heap.size, 1, none⟩ = false := fb b2 (by simp) (by simp))
        | (go_at_call 108; (with_reducible refine (CL _).mono ?_); rintro e w3 ⟨rfl, b3⟩; have z3 : w2.heap.size + 1 ≤ w3.heap.size := (by simpa using b3.size); have q30 := cb b3 (by simp; omega) (ca (by omega) q20); have g30 := fb b3 (by simp; omega) (fa (by omega) g20); have q31 := cb b3 (by simp; omega) (ca (by omega) q21); have g31 := fb b3 (by simp; omega) (fa (by omega) g21); have t30 : w3.cell? ⟨w2.heap.size, 0, none⟩ = some (.int .u64 (hi (2 * R))) := cb b3 (by simp) (by simp); have t31 : w3.cell? ⟨w2.heap.size, 1, none⟩ = some (.int .u64 (lo (2 * R))) := cb b3 (by simp) (by simp))
        | (go_at_call 108; (with_reducible refine (CM _).mono ?_); rintro e w4 ⟨rfl, b4⟩; have z4 : w3.heap.size ≤ w4.heap.size := b4.size; have q40 := cb b4 (by omega) q30; have g40 := fb b4 (by omega) g30; have q41 := cb b4 (by omega) q31; have g41 := fb b4 (by omega) g31)
        | (go_at_call 104; (with_reducible refine (CH _).mono ?_); rintro e w5 ⟨rfl, b5⟩))
      go_ret
      refine ⟨ret_i64 (by simp [signI]), ?_⟩
      repeat (first | exact Below.refl _ _ | with_reducible refine ba ?_ _ | with_reducible refine bs ?_ (by omega) _ | with_reducible refine bd ?_ | (with_reducible refine bt ?_ (by assumption)))
end Go.Proofs.YtdpkigdfhfippaaGreatDoor
