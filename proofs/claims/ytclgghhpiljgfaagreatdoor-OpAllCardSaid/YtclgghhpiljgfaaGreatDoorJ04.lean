/- Parts, joined. -/
import Derived.Test.YtclgghhpiljgfaaGreatDoorJ03
import Derived.Shelf.Bits.Mul64
/- The rounded quotients of the document's answers (layer 1). -/
namespace Go.Proofs.YtclgghhpiljgfaaGreatDoor
open Go.RowKit


theorem bt {a w w1 : World} (h : Below a.heap.size a w) (b : Below w.heap.size w w1) : Below a.heap.size a w1 := h.trans (b.mono h.size)
theorem ba {a w : World} (h : Below a.heap.size a w) (o : Obj) : Below a.heap.size a (w.alloc o) := h.alloc h.size o
theorem bs {a w : World} {b o : Nat} (h : Below a.heap.size a w) (hp : a.heap.size ≤ b) (u : Value) : Below a.heap.size a (w.setCell ⟨b, o, none⟩ u) := h.setCell (p := ⟨b, o, none⟩) hp u
theorem bd {a w : World} (h : Below a.heap.size a w) : Below a.heap.size a w.drew := h.drew
theorem ca {w : World} {b o : Nat} {v : Value} {ob : Obj} (h : b < w.heap.size) (hc : w.cell? ⟨b, o, none⟩ = some v) : (w.alloc ob).cell? ⟨b, o, none⟩ = some v := (World.cell?_alloc_past ob b o h).trans hc
theorem fa {w : World} {b o : Nat} {ob : Obj} (h : b < w.heap.size) (hc : w.frozen? ⟨b, o, none⟩ = false) : (w.alloc ob).frozen? ⟨b, o, none⟩ = false := (World.frozen?_alloc_past ob b o h).trans hc
theorem twice_low (r : Int) (h0 : 0 ≤ r) (h1 : r < 18446744073709551616) (w : World) :
    Calls Tryz.prog 99 #[.agg #[.int .u64 0, .int .u64 r], .int .u64 0] w fun e w' => e = .returned (.agg #[.int .u64 (hi (2 * r)), .int .u64 (lo (2 * r))]) ∧ Below w.heap.size w w' := by
  have h := twice_any r 0 h0 (by omega) (by omega) (by omega) w
  rw [hi_small h0 h1, lo_small h0 h1, Int.add_zero] at h
  exact h
theorem low_less (x y h l : Int) (eh : h = hi x) (el : l = lo x) (b : Bool) (hb : decide (x < y) = b) (h0 : 0 ≤ x) (k0 : 0 ≤ y) (h1 : x < 340282366920938463463374607431768211456) (k1 : y < 340282366920938463463374607431768211456) (w : World) :
    Calls Tryz.prog 102 #[.agg #[.int .u64 h, .int .u64 l], .agg #[.int .u64 (hi y), .int .u64 (lo y)]] w fun e w' => e = .returned (.bool b) ∧ Below w.heap.size w w' := by
  subst eh; subst el; subst hb
  exact less_any x y h0 k0 h1 k1 w
theorem less_low (x y h l : Int) (eh : h = hi y) (el : l = lo y) (b : Bool) (hb : decide (x < y) = b) (h0 : 0 ≤ x) (k0 : 0 ≤ y) (h1 : x < 340282366920938463463374607431768211456) (k1 : y < 340282366920938463463374607431768211456) (w : World) :
    Calls Tryz.prog 102 #[.agg #[.int .u64 (hi x), .int .u64 (lo x)], .agg #[.int .u64 h, .int .u64 l]] w fun e w' => e = .returned (.bool b) ∧ Below w.heap.size w w' := by
  subst eh; subst el; subst hb
  exact less_any x y h0 k0 h1 k1 w
theorem plus_one (x : Int) (h0 : 0 ≤ x) (h1 : x + 1 < 340282366920938463463374607431768211456) (w : World) :
    Calls Tryz.prog 97 #[.agg #[.int .u64 (hi x), .int .u64 (lo x)], .agg #[.int .u64 0, .int .u64 1]] w fun e w' => e = .returned (.agg #[.int .u64 (hi (x + 1)), .int .u64 (lo (x + 1))]) ∧ Below w.heap.size w w' :=
  plus_any x 1 h0 (by omega) h1 w
theorem hiz (d : Int) (h0 : 0 ≤ d) (h1 : d < 18446744073709551616) : 0 = hi d := (hi_small h0 h1).symm
theorem loz (d : Int) (h0 : 0 ≤ d) (h1 : d < 18446744073709551616) : d = lo d := (lo_small h0 h1).symm
set_option maxHeartbeats 1000000 in
theorem near_false (x d : Int) (h0 : 0 ≤ x) (h1 : x < 170141183460469231731687303715884105728) (d0 : 0 < d) (d1 : d < 18446744073709551616) (w : World) :
    Calls Tryz.prog 79 #[.agg #[.int .u64 (hi x), .int .u64 (lo x)], .int .u64 d, .bool false] w fun e w' =>
      e = .returned (.int .i64 (holdI (x / d + if d ≤ 2 * (x % d) then 1 else 0))) ∧ Below w.heap.size w w' := by
  have Q0 : 0 ≤ x / d := Int.ediv_nonneg h0 (by omega)
  have Q1 : x / d < 170141183460469231731687303715884105728 := Int.lt_of_le_of_lt (Int.ediv_le_self _ h0) h1
  have R0 : 0 ≤ x % d := Int.emod_nonneg _ (by omega)
  have R1 : x % d < d := Int.emod_lt_of_pos _ d0
  have CO := over_any x d h0 (by omega) d0 d1
  generalize x / d = Q at *
  generalize x % d = R at *
  have CT := twice_low R R0 (by omega)
  clear h0 h1
  by_cases hc : d ≤ 2 * R
  · have CL := less_low (2 * R) d 0 d (hiz d (by omega) d1) (loz d (by omega) d1) false (decide_eq_false (by omega)) (by omega) (by omega) (by omega) (by omega)
    have CP := plus_one Q Q0 (by omega)
    have CH := hold_any (Q + 1) false (by omega) (by omega)
    rw [if_pos hc]
    go_enter Tryz.func79, Tryz.ntmps79
    go_wp2_with (first
      | (go_at_call 96; (with_reducible refine (CO _).mono ?_); rintro e w1 ⟨rfl, b1⟩; have z1 : w.heap.size + 1 ≤ w1.heap.size := (by simpa using b1.size))
      | (go_at_call 99; (with_reducible refine (CT _).mono ?_); rintro e w2 ⟨rfl, b2⟩; have z2 : w1.heap.size + 1 ≤ w2.heap.size := (by simpa using b2.size); have q20 : w2.cell? ⟨w1.heap.size, 0, none⟩ = some (.int .u64 (hi Q)) := cb b2 (by simp) (by simp); have q21 : w2.cell? ⟨w1.heap.size, 1, none⟩ = some (.int .u64 (lo Q)) := cb b2 (by simp) (by simp); have g20 : w2.frozen? ⟨w1.heap.size, 0, none⟩ = false := fb b2 (by simp) (by simp); have g21 : w2.frozen? ⟨w1.heap.size, 1, none⟩ = false := fb b2 (by simp) (by simp))
      | (go_at_call 102; (with_reducible refine (CL _).mono ?_); rintro e w3 ⟨rfl, b3⟩; have z3 : w2.heap.size + 1 ≤ w3.heap.size := (by simpa using b3.size); have q30 := cb b3 (by simp; omega) (ca (by omega) q20); have g30 := fb b3 (by simp; omega) (fa (by omega) g20); have q31 := cb b3 (by simp; omega) (ca (by omega) q21); have g31 := fb b3 (by simp; omega) (fa (by omega) g21); have t30 : w3.cell? ⟨w2.heap.size, 0, none⟩ = some (.int .u64 (hi (2 * R))) := cb b3 (by simp) (by simp); have t31 : w3.cell? ⟨w2.heap.size, 1, none⟩ = some (.int .u64 (lo (2 * R))) := cb b3 (by simp) (by simp))
      | (go_at_call 97; (with_reducible refine (CP _).mono ?_); rintro e w4 ⟨rfl, b4⟩; have z4 : w3.heap.size ≤ w4.heap.size := b4.size; have q40 := cb b4 (by omega) q30; have g40 := fb b4 (by omega) g30; have q41 := cb b4 (by omega) q31; have g41 := fb b4 (by omega) g31)
      | (go_at_call 98; (with_reducible refine (CH _).mono ?_); rintro e w5 ⟨rfl, b5⟩))
    go_ret
    refine ⟨ret_i64 rfl, ?_⟩
    repeat (first | exact Below.refl _ _ | with_reducible refine ba ?_ _ | with_reducible refine bs ?_ (by omega) _ | with_reducible refine bd ?_ | (with_reducible refine bt ?_ (by assumption)))
  · have CL := less_low (2 * R) d 0 d (hiz d (by omega) d1) (loz d (by omega) d1) true (decide_eq_true (by omega)) (by omega) (by omega) (by omega) (by omega)
    have CH := hold_any Q false (by omega) (by omega)
    rw [if_neg hc]
    go_enter Tryz.func79, Tryz.ntmps79
    go_wp2_with (first
      | (go_at_call 96; (with_reducible refine (CO _).mono ?_); rintro e w1 ⟨rfl, b1⟩; have z1 : w.heap.size + 1 ≤ w1.heap.size := (by simpa using b1.size))
      | (go_at_call 99; (with_reducible refine (CT _).mono ?_); rintro e w2 ⟨rfl, b2⟩; have z2 : w1.heap.size + 1 ≤ w2.heap.size := (by simpa using b2.size); have q20 : w2.cell? ⟨w1.heap.size, 0, none⟩ = some (.int .u64 (hi Q)) := cb b2 (by simp) (by simp); have q21 : w2.cell? ⟨w1.heap.size, 1, none⟩ = some (.int .u64 (lo Q)) := cb b2 (by simp) (by simp); have g20 : w2.frozen? ⟨w1.heap.size, 0, none⟩ = false := fb b2 (by simp) (by simp); have g21 : w2.frozen? ⟨w1.heap.size, 1, none⟩ = false := fb b2 (by simp) (by simp))
      | (go_at_call 102; (with_reducible refine (CL _).mono ?_); rintro e w3 ⟨rfl, b3⟩; have z3 : w2.heap.size + 1 ≤ w3.heap.size := (by simpa using b3.size); have q30 := cb b3 (by simp; omega) (ca (by omega) q20); have g30 := fb b3 (by simp; omega) (fa (by omega) g20); have q31 := cb b3 (by simp; omega) (ca (by omega) q21); have g31 := fb b3 (by simp; omega) (fa (by omega) g21); have t30 : w3.cell? ⟨w2.heap.size, 0, none⟩ = some (.int .u64 (hi (2 * R))) := cb b3 (by simp) (by simp); have t31 : w3.cell? ⟨w2.heap.size, 1, none⟩ = some (.int .u64 (lo (2 * R))) := cb b3 (by simp) (by simp))
      | (go_at_call 98; (with_reducible refine (CH _).mono ?_); rintro e w4 ⟨rfl, b4⟩))
    go_ret
    refine ⟨ret_i64 (by simp [signI]), ?_⟩
    repeat (first | exact Below.refl _ _ | with_reducible refine ba ?_ _ | with_reducible refine bs ?_ (by omega) _ | with_reducible refine bd ?_ | (with_reducible refine bt ?_ (by assumption)))
set_option maxHeartbeats 1000000 in
theorem near_true (x d : Int) (h0 : 0 ≤ x) (h1 : x < 170141183460469231731687303715884105728) (d0 : 0 < d) (d1 : d < 18446744073709551616) (w : World) :
    Calls Tryz.prog 79 #[.agg #[.int .u64 (hi x), .int .u64 (lo x)], .int .u64 d, .bool true] w fun e w' =>
      e = .returned (.int .i64 (holdI (-(x / d + if d < 2 * (x % d) then 1 else 0)))) ∧ Below w.heap.size w w' := by
  have Q0 : 0 ≤ x / d := Int.ediv_nonneg h0 (by omega)
  have Q1 : x / d < 170141183460469231731687303715884105728 := Int.lt_of_le_of_lt (Int.ediv_le_self _ h0) h1
  have R0 : 0 ≤ x % d := Int.emod_nonneg _ (by omega)
  have R1 : x % d < d := Int.emod_lt_of_pos _ d0
  have CO := over_any x d h0 (by omega) d0 d1
  generalize x / d = Q at *
  generalize x % d = R at *
  have CT := twice_low R R0 (by omega)
  clear h0 h1
  by_cases hc : d < 2 * R
  · have CL := less_low (2 * R) d 0 d (hiz d (by omega) d1) (loz d (by omega) d1) false (decide_eq_false (by omega)) (by omega) (by omega) (by omega) (by omega)
    have CM := low_less d (2 * R) 0 d (hiz d (by omega) d1) (loz d (by omega) d1) true (decide_eq_true (by omega)) (by omega) (by omega) (by omega) (by omega)
    have CP := plus_one Q Q0 (by omega)
    have CH := hold_any (Q + 1) true (by omega) (by omega)
    rw [if_pos hc]
    go_enter Tryz.func79, Tryz.ntmps79
    go_wp2_with (first
      | (go_at_call 96; (with_reducible refine (CO _).mono ?_); rintro e w1 ⟨rfl, b1⟩; have z1 : w.heap.size + 1 ≤ w1.heap.size := (by simpa using b1.size))
      | (go_at_call 99; (with_reducible refine (CT _).mono ?_); rintro e w2 ⟨rfl, b2⟩; have z2 : w1.heap.size + 1 ≤ w2.heap.size := (by simpa using b2.size); have q20 : w2.cell? ⟨w1.heap.size, 0, none⟩ = some (.int .u64 (hi Q)) := cb b2 (by simp) (by simp); have q21 : w2.cell? ⟨w1.heap.size, 1, none⟩ = some (.int .u64 (lo Q)) := cb b2 (by simp) (by simp); have g20 : w2.frozen? ⟨w1.heap.size, 0, none⟩ = false := fb b2 (by simp) (by simp); have g21 : w2.frozen? ⟨w1.heap.size, 1, none⟩ = false := fb b2 (by simp) (by simp))
      | (go_at_call 102; (with_reducible refine (CL _).mono ?_); rintro e w3 ⟨rfl, b3⟩; have z3 : w2.heap.size + 1 ≤ w3.heap.size := (by simpa using b3.size); have q30 := cb b3 (by simp; omega) (ca (by omega) q20); have g30 := fb b3 (by simp; omega) (fa (by omega) g20); have q31 := cb b3 (by simp; omega) (ca (by omega) q21); have g31 := fb b3 (by simp; omega) (fa (by omega) g21); have t30 : w3.cell? ⟨w2.heap.size, 0, none⟩ = some (.int .u64 (hi (2 * R))) := cb b3 (by simp) (by simp); have t31 : w3.cell? ⟨w2.heap.size, 1, none⟩ = some (.int .u64 (lo (2 * R))) := cb b3 (by simp) (by simp))
      | (go_at_call 102; (with_reducible refine (CM _).mono ?_); rintro e w4 ⟨rfl, b4⟩; have z4 : w3.heap.size ≤ w4.heap.size := b4.size; have q40 := cb b4 (by omega) q30; have g40 := fb b4 (by omega) g30; have q41 := cb b4 (by omega) q31; have g41 := fb b4 (by omega) g31)
      | (go_at_call 97; (with_reducible refine (CP _).mono ?_); rintro e w5 ⟨rfl, b5⟩; have z5 : w4.heap.size ≤ w5.heap.size := b5.size; have q50 := cb b5 (by omega) q40; have g50 := fb b5 (by omega) g40; have q51 := cb b5 (by omega) q41; have g51 := fb b5 (by omega) g41)
      | (go_at_call 98; (with_reducible refine (CH _).mono ?_); rintro e w6 ⟨rfl, b6⟩))
    go_ret
    refine ⟨ret_i64 rfl, ?_⟩
    repeat (first | exact Below.refl _ _ | with_reducible refine ba ?_ _ | with_reducible refine bs ?_ (by omega) _ | with_reducible refine bd ?_ | (with_reducible refine bt ?_ (by assumption)))
  · by_cases he : d = 2 * R
    · have he' : d ≤ 2 * R := by omega
      clear he
      have CL := less_low (2 * R) d 0 d (hiz d (by omega) d1) (loz d (by omega) d1) false (decide_eq_false (by omega)) (by omega) (by omega) (by omega) (by omega)
      have CM := low_less d (2 * R) 0 d (hiz d (by omega) d1) (loz d (by omega) d1) false (decide_eq_false (by omega)) (by omega) (by omega) (by omega) (by omega)
      have CH := hold_any Q true (by omega) (by omega)
      rw [if_neg hc]
      go_enter Tryz.func79, Tryz.ntmps79
      go_wp2_with (first
        | (go_at_call 96; (with_reducible refine (CO _).mono ?_); rintro e w1 ⟨rfl, b1⟩; have z1 : w.heap.size + 1 ≤ w1.heap.size := (by simpa using b1.size))
        | (go_at_call 99; (with_reducible refine (CT _).mono ?_); rintro e w2 ⟨rfl, b2⟩; have z2 : w1.heap.size + 1 ≤ w2.heap.size := (by simpa using b2.size); have q20 : w2.cell? ⟨w1.heap.size, 0, none⟩ = some (.int .u64 (hi Q)) := cb b2 (by simp) (by simp); have q21 : w2.cell? ⟨w1.heap.size, 1, none⟩ = some (.int .u64 (lo Q)) := cb b2 (by simp) (by simp); have g20 : w2.frozen? ⟨w1.heap.size, 0, none⟩ = false := fb b2 (by simp) (by simp); have g21 : w2.frozen? ⟨w1.heap.size, 1, none⟩ = false := fb b2 (by simp) (by simp))
        | (go_at_call 102; (with_reducible refine (CL _).mono ?_); rintro e w3 ⟨rfl, b3⟩; have z3 : w2.heap.size + 1 ≤ w3.heap.size := (by simpa using b3.size); have q30 := cb b3 (by simp; omega) (ca (by omega) q20); have g30 := fb b3 (by simp; omega) (fa (by omega) g20); have q31 := cb b3 (by simp; omega) (ca (by omega) q21); have g31 := fb b3 (by simp; omega) (fa (by omega) g21); have t30 : w3.cell? ⟨w2.heap.size, 0, none⟩ = some (.int .u64 (hi (2 * R))) := cb b3 (by simp) (by simp); have t31 : w3.cell? ⟨w2.heap.size, 1, none⟩ = some (.int .u64 (lo (2 * R))) := cb b3 (by simp) (by simp))
        | (go_at_call 102; (with_reducible refine (CM _).mono ?_); rintro e w4 ⟨rfl, b4⟩; have z4 : w3.heap.size ≤ w4.heap.size := b4.size; have q40 := cb b4 (by omega) q30; have g40 := fb b4 (by omega) g30; have q41 := cb b4 (by omega) q31; have g41 := fb b4 (by omega) g31)
        | (go_at_call 98; (with_reducible refine (CH _).mono ?_); rintro e w5 ⟨rfl, b5⟩))
      go_ret
      refine ⟨ret_i64 (by simp [signI]), ?_⟩
      repeat (first | exact Below.refl _ _ | with_reducible refine ba ?_ _ | with_reducible refine bs ?_ (by omega) _ | with_reducible refine bd ?_ | (with_reducible refine bt ?_ (by assumption)))
    · have CL := less_low (2 * R) d 0 d (hiz d (by omega) d1) (loz d (by omega) d1) true (decide_eq_true (by omega)) (by omega) (by omega) (by omega) (by omega)
      have CM := low_less d (2 * R) 0 d (hiz d (by omega) d1) (loz d (by omega) d1) false (decide_eq_false (by omega)) (by omega) (by omega) (by omega) (by omega)
      have CH := hold_any Q true (by omega) (by omega)
      rw [if_neg hc]
      go_enter Tryz.func79, Tryz.ntmps79
      go_wp2_with (first
        | (go_at_call 96; (with_reducible refine (CO _).mono ?_); rintro e w1 ⟨rfl, b1⟩; have z1 : w.heap.size + 1 ≤ w1.heap.size := (by simpa using b1.size))
        | (go_at_call 99; (with_reducible refine (CT _).mono ?_); rintro e w2 ⟨rfl, b2⟩; have z2 : w1.heap.size + 1 ≤ w2.heap.size := (by simpa using b2.size); have q20 : w2.cell? ⟨w1.heap.size, 0, none⟩ = some (.int .u64 (hi Q)) := cb b2 (by simp) (by simp); have q21 : w2.cell? ⟨w1.heap.size, 1, none⟩ = some (.int .u64 (lo Q)) := cb b2 (by simp) (by simp); have g20 : w2.frozen? ⟨w1.heap.size, 0, none⟩ = false := fb b2 (by simp) (by simp); have g21 : w2.frozen? ⟨w1.heap.size, 1, none⟩ = false := fb b2 (by simp) (by simp))
        | (go_at_call 102; (with_reducible refine (CL _).mono ?_); rintro e w3 ⟨rfl, b3⟩; have z3 : w2.heap.size + 1 ≤ w3.heap.size := (by simpa using b3.size); have q30 := cb b3 (by simp; omega) (ca (by omega) q20); have g30 := fb b3 (by simp; omega) (fa (by omega) g20); have q31 := cb b3 (by simp; omega) (ca (by omega) q21); have g31 := fb b3 (by simp; omega) (fa (by omega) g21); have t30 : w3.cell? ⟨w2.heap.size, 0, none⟩ = some (.int .u64 (hi (2 * R))) := cb b3 (by simp) (by simp); have t31 : w3.cell? ⟨w2.heap.size, 1, none⟩ = some (.int .u64 (lo (2 * R))) := cb b3 (by simp) (by simp))
        | (go_at_call 102; (with_reducible refine (CM _).mono ?_); rintro e w4 ⟨rfl, b4⟩; have z4 : w3.heap.size ≤ w4.heap.size := b4.size; have q40 := cb b4 (by omega) q30; have g40 := fb b4 (by omega) g30; have q41 := cb b4 (by omega) q31; have g41 := fb b4 (by omega) g31)
        | (go_at_call 98; (with_reducible refine (CH _).mono ?_); rintro e w5 ⟨rfl, b5⟩))
      go_ret
      refine ⟨ret_i64 (by simp [signI]), ?_⟩
      repeat (first | exact Below.refl _ _ | with_reducible refine ba ?_ _ | with_reducible refine bs ?_ (by omega) _ | with_reducible refine bd ?_ | (with_reducible refine bt ?_ (by assumption)))
end Go.Proofs.YtclgghhpiljgfaaGreatDoor

/- Products: the program's, held, and the document's, of 128 bits. -/
namespace Go.Proofs.YtclgghhpiljgfaaGreatDoor
open Go.RowKit


/-! ### The library's long product, by the shelf's contract, laid here -/
def lays264r : Go.Shelf.Ren := ⟨fun | 264 => 132 | n => n, fun | 53 => 116 | 46 => 152 | n => n, fun | n => n⟩
theorem lays264 : Go.Proofs.Lays.n264 Tryz.prog lays264r := {
  mixed := by kernel_rfl
  f264 := Tryz.func132.trans (congrArg some (by kernel_rfl))
  t46 := Tryz.underlying152
  a46 := Tryz.isAgg152
  z46 := Tryz.sizeOf152
  v46 := Tryz.zeroValue152
  t53 := Tryz.underlying116
  a53 := Tryz.isAgg116
  z53 := Tryz.sizeOf116
  v53 := Tryz.zeroValue116 }
theorem mul64_any (x y : Nat) (hx : x < 18446744073709551616) (hy : y < 18446744073709551616) (w : World) :
    Calls Tryz.prog 132 #[.int .u64 x, .int .u64 y] w fun e w' => e = .returned (.tuple #[.int .u64 ((x * y / 18446744073709551616 : Nat) : Int), .int .u64 ((x * y % 18446744073709551616 : Nat) : Int)]) ∧ w = w' :=
  (Any.bits_Mul64 lays264 x y hx hy w).mono fun _ _ ⟨he, hw⟩ => ⟨he, hw.symm⟩
/-! ### The document's long product -/
/-- What lies in memory at a round's head: the product so far. -/
structure TimesSt (w wr : World) (X : Int) : Prop where
  x0 : wr.cell? ⟨w.heap.size + 1, 0, none⟩ = some (.int .u64 (hi X))
  x1 : wr.cell? ⟨w.heap.size + 1, 1, none⟩ = some (.int .u64 (lo X))
  o0 : ∃ v, wr.cell? ⟨w.heap.size, 0, none⟩ = some v
  o1 : ∃ v, wr.cell? ⟨w.heap.size, 1, none⟩ = some v
  f0 : wr.frozen? ⟨w.heap.size, 0, none⟩ = false
  f1 : wr.frozen? ⟨w.heap.size, 1, none⟩ = false
  f10 : wr.frozen? ⟨w.heap.size + 1, 0, none⟩ = false
  f11 : wr.frozen? ⟨w.heap.size + 1, 1, none⟩ = false
  hz : w.heap.size + 1 < wr.heap.size
  hb : Below w.heap.size w wr
theorem TimesSt.below {w wr w1 : World} {X : Int} (h : TimesSt w wr X) (hb : Below wr.heap.size wr w1) : TimesSt w w1 X := by
  have hz := h.hz
  have hs := hb.size
  obtain ⟨v0, o0⟩ := h.o0
  obtain ⟨v1, o1⟩ := h.o1
  exact ⟨cb hb (by omega) h.x0, cb hb (by omega) h.x1, ⟨v0, cb hb (by omega) o0⟩, ⟨v1, cb hb (by omega) o1⟩, fb hb (by omega) h.f0, fb hb (by omega) h.f1, fb hb (by omega) h.f10, fb hb (by omega) h.f11, by omega, h.hb.trans (hb.mono (by omega))⟩
theorem TimesSt.set {w wr : World} {X X' : Int} (h : TimesSt w wr X) :
    TimesSt w ((wr.setCell ⟨w.heap.size + 1, 0, none⟩ (.int .u64 (hi X'))).setCell ⟨w.heap.size + 1, 1, none⟩ (.int .u64 (lo X'))) X' := by
  obtain ⟨v0, o0⟩ := h.o0
  obtain ⟨v1, o1⟩ := h.o1
  exact ⟨cs (by omega) (cw h.x0), cw (cs (by omega) h.x1), ⟨v0, cs (by omega) (cs (by omega) o0)⟩, ⟨v1, cs (by omega) (cs (by omega) o1)⟩, by simp [h.f0], by simp [h.f1], by simp [h.f10], by simp [h.f11],
    by simpa [World.setCell] using h.hz, (h.hb.setCell (by show _ ≤ w.heap.size + 1; omega) _).setCell (by show _ ≤ w.heap.size + 1; omega) _⟩
theorem times_start (w : World) : TimesSt w ((w.alloc (.cells #[.int .u64 0, .int .u64 0] 118)).alloc (.cells #[.int .u64 0, .int .u64 0] 118)) 0 := by
  have e0 : hi 0 = 0 := rfl
  have e1 : lo 0 = 0 := rfl
  refine ⟨?_, ?_, ⟨.int .u64 0, ?_⟩, ⟨.int .u64 0, ?_⟩, ?_, ?_, ?_, ?_, ?_, below2 _ _ _⟩
  all_goals simp [go_sem, e0, e1]
theorem twice_zero (x : Int) (h0 : 0 ≤ x) (h1 : x < 170141183460469231731687303715884105728) (w : World) :
    Calls Tryz.prog 99 #[.agg #[.int .u64 (hi x), .int .u64 (lo x)], .int .u64 0] w fun e w' => e = .returned (.agg #[.int .u64 (hi (2 * x)), .int .u64 (lo (2 * x))]) ∧ Below w.heap.size w w' := by
  have h := twice_any x 0 h0 h1 (by omega) (by omega) w
  rw [Int.add_zero] at h
  exact h
theorem plus_low (x a : Int) (h0 : 0 ≤ x) (a0 : 0 ≤ a) (a1 : a < 18446744073709551616) (h1 : x + a < 340282366920938463463374607431768211456) (w : World) :
    Calls Tryz.prog 97 #[.agg #[.int .u64 (hi x), .int .u64 (lo x)], .agg #[.int .u64 0, .int .u64 a]] w fun e w' => e = .returned (.agg #[.int .u64 (hi (x + a)), .int .u64 (lo (x + a))]) ∧ Below w.heap.size w w' := by
  have h := plus_any x a h0 a0 h1 w
  rw [hi_small a0 a1, lo_small a0 a1] at h
  exact h
theorem times_step (a b : Int) (k : Nat) : a * (b / 2 ^ k) = 2 * (a * (b / 2 ^ (k + 1))) + a * bitI b k := by
  rw [half_pow b k, Int.mul_add, Int.mul_left_comm]
theorem times_lt {a b : Int} (k : Nat) (a0 : 0 ≤ a) (a1 : a < 18446744073709551616) (b0 : 0 ≤ b) (b1 : b < 18446744073709551616) : 0 ≤ a * (b / 2 ^ (k + 1)) ∧ a * (b / 2 ^ (k + 1)) ≤ 170141183460469231704017187605319778305 := by
  have q0 : 0 ≤ b / 2 ^ (k + 1) := Int.ediv_nonneg b0 (Int.le_of_lt (pow2_pos _))
  have q1 : b / 2 ^ (k + 1) ≤ 9223372036854775807 := by
    have e : b / 2 ^ (k + 1) = b / 2 / 2 ^ k := by
      have e2 : (2 : Int) ^ (k + 1) = 2 * 2 ^ k := by rw [Int.pow_succ, Int.mul_comm]
      rw [e2, Int.ediv_ediv_of_nonneg (by decide)]
    have := Int.ediv_le_self (a := b / 2) (2 ^ k) (by omega)
    omega
  refine ⟨Int.mul_nonneg a0 q0, ?_⟩
  have := Int.mul_le_mul (show a ≤ 18446744073709551615 by omega) q1 q0 (by omega)
  omega
set_option maxHeartbeats 1000000 in
theorem times_any (a b : Int) (a0 : 0 ≤ a) (a1 : a < 18446744073709551616) (b0 : 0 ≤ b) (b1 : b < 18446744073709551616) (w : World) :
    Calls Tryz.prog 77 #[.int .u64 a, .int .u64 b] w fun e w' => e = .returned (.agg #[.int .u64 (hi (a * b)), .int .u64 (lo (a * b))]) ∧ Below w.heap.size w w' := by
  go_enter Tryz.func77, Tryz.ntmps77
  go_wp2
  go_loopw [6] (fun i wr => ∃ j : Nat, j ≤ 64 ∧ i = .int .i64 ((j : Int) - 1) ∧ TimesSt w wr (a * (b / 2 ^ j))) (fun i _ => (intOf i + 1).toNat)
  case atStart =>
    refine ⟨64, by omega, rfl, ?_⟩
    rw [show b / 2 ^ 64 = 0 from Int.ediv_eq_zero_of_lt b0 (by simpa using b1), Int.mul_zero]
    exact times_start w
  case round =>
    obtain ⟨j, hj, rfl, hst⟩ := hrel
    by_cases hj0 : j = 0
    · subst hj0
      have ST := hide hst
      obtain ⟨x0, x1, ⟨v0, o0⟩, ⟨v1, o1⟩, f0, f1, f10, f11, hz, hb⟩ := hst
      clear hb
      go_wp2
      refine bodyPost_ret (v := .agg #[.int .u64 (hi (a * b)), .int .u64 (lo (a * b))]) (by simp [results, Tryz.results77, go_sem, o0, o1]) rfl ⟨rfl, ?_⟩
      exact (ST.out.hb.setCell (by show _ ≤ w.heap.size; omega) _).setCell (by show _ ≤ w.heap.size; omega) _
    · obtain ⟨k, rfl⟩ : ∃ k, j = k + 1 := ⟨j - 1, by omega⟩
      have es := times_step a b k
      have lt := times_lt k a0 a1 b0 b1
      have bb0 := bitI0 b k
      have bb1 := bitI1 b k
      have ek : ((k + 1 : Nat) : Int) - 1 = (k : Int) := by omega
      rw [ek]
      clear ek
      generalize a * (b / 2 ^ (k + 1)) = X at *
      have ES := hide es
      clear es
      have ST := hide hst
      obtain ⟨x0, x1, ⟨v0, o0⟩, ⟨v1, o1⟩, f0, f1, f10, f11, hz, hb⟩ := hst
      clear hb o0 o1 f0 f1
      have CT := twice_zero X lt.1 (by omega)
      have CP := plus_low (2 * X) a (by omega) a0 a1 (by omega)
      obtain ⟨lt0, lt1⟩ := lt
      have eb : bits .and .u64 (b / 2 ^ k) 1 = bitI b k := and_one _ (Int.ediv_nonneg b0 (Int.le_of_lt (pow2_pos _))) (div_pow_lt _ b0 b1)
      by_cases hbit : bitI b k = 1
      · have ht : (bits .and .u64 (b / 2 ^ k) 1 == 1) = true := by rw [eb, hbit]; rfl
        have EB := hide hbit
        clear eb hbit
        go_wp2_with (first
          | (go_at_call 99; (with_reducible refine (CT _).mono ?_); rintro e w3 ⟨rfl, hb3⟩; have q3 := cb hb3 (by omega) x0; have q4 := cb hb3 (by omega) x1; have t3 := fb hb3 (by omega) f10; have t4 := fb hb3 (by omega) f11;
              have T3 := hide (TimesSt.set (X' := 2 * X) (ST.out.below hb3)))
          | (go_at_call 97; (with_reducible refine (CP _).mono ?_); rintro e w4 ⟨rfl, hb4⟩;
              have T4 := hide (T3.out.below hb4); have y0 := T4.out.x0; have y1 := T4.out.x1; have y2 := T4.out.f10; have y3 := T4.out.f11))
        go_roundw
        case rel => exact ⟨k, by omega, rfl, by rw [ES.out, EB.out, Int.mul_one]; exact T4.out.set⟩
        case measure => simp [intOf]
      · have hb0 : bitI b k = 0 := by omega
        have ht : (bits .and .u64 (b / 2 ^ k) 1 == 1) = false := by rw [eb, hb0]; rfl
        have EB := hide hb0
        clear eb hbit hb0
        go_wp2_with (first
          | (go_at_call 99; (with_reducible refine (CT _).mono ?_); rintro e w3 ⟨rfl, hb3⟩; have q3 := cb hb3 (by omega) x0; have q4 := cb hb3 (by omega) x1; have t3 := fb hb3 (by omega) f10; have t4 := fb hb3 (by omega) f11))
        go_roundw
        case rel => exact ⟨k, by omega, rfl, by rw [ES.out, EB.out, Int.mul_zero, Int.add_zero]; exact (ST.out.below hb3).set⟩
        case measure => simp [intOf]
end Go.Proofs.YtclgghhpiljgfaaGreatDoor
