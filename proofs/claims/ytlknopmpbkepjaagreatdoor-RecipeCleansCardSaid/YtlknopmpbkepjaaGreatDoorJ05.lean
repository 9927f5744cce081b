/- Parts, joined. -/
import Derived.Test.YtlknopmpbkepjaaGreatDoorJ04
import Derived.Deep.RegionHeld3
import Derived.Deep.DeepCutAuto
/- Long numbers: held, shifted down, divided. -/
namespace Go.Proofs.YtlknopmpbkepjaaGreatDoor
open Go.RowKit


theorem new0L (w : World) (u v : Value) (t : TypeId) : (w.alloc (.cells #[u, v] t)).cell? ⟨w.heap.size, 0, none⟩ = some u := by simp
theorem new1L (w : World) (u v : Value) (t : TypeId) : (w.alloc (.cells #[u, v] t)).cell? ⟨w.heap.size, 1, none⟩ = some v := by simp
theorem new_ltL (w : World) (o : Obj) : w.heap.size < (w.alloc o).heap.size := by simp
theorem wlo_same (x : Int) : lo (wrap64 (lo x)) = lo x := by unfold wrap64 lo; omega
theorem wlo_in {x : Int} (h0 : -9223372036854775808 ≤ x) (h1 : x ≤ 9223372036854775807) : wrap64 (lo x) = x := by unfold wrap64 lo; omega
theorem whi_out {x : Int} (h : x < -9223372036854775808 ∨ 9223372036854775807 < x) : hi x ≠ hi (wrap64 (lo x)) := by unfold wrap64 hi lo; omega
theorem wlo0 (x : Int) : -9223372036854775808 ≤ wrap64 x := by unfold wrap64; omega
theorem wlo1 (x : Int) : wrap64 x ≤ 9223372036854775807 := by unfold wrap64; omega
set_option maxHeartbeats 1000000 in
theorem whold_any (x : Int) (w : World) :
    Calls Tryz.prog 82 #[.agg #[.int .i64 (hi x), .int .u64 (lo x)]] w fun e w' => e = .returned (.int .i64 (holdI x)) ∧ Below w.heap.size w w' := by
  have n0 := new0L w (.int .i64 (hi x)) (.int .u64 (lo x)) 111
  have n1 := new1L w (.int .i64 (hi x)) (.int .u64 (lo x)) 111
  have n2 := new_ltL w (.cells #[.int .i64 (hi x), .int .u64 (lo x)] 111)
  have CO := of_any (wrap64 (lo x)) (wlo0 _) (wlo1 _)
  rw [wlo_same] at CO
  by_cases h : -9223372036854775808 ≤ x ∧ x ≤ 9223372036854775807
  · rw [holdI_in h.1 h.2]
    have e := wlo_in h.1 h.2
    rw [show hi (wrap64 (lo x)) = hi x by rw [e]] at CO
    have E := hide e
    clear e h
    go_enter Tryz.func82, Tryz.ntmps82
    go_wp2
    go_region_held3 (fun w' => w'.cell? ⟨w.heap.size, 0, none⟩ = some (.int .i64 (hi x)) ∧ w'.cell? ⟨w.heap.size, 1, none⟩ = some (.int .u64 (lo x)))
      (first | exact ⟨n0, n1⟩ | exact ⟨y0, y1⟩)
      (first
        | (go_at_call 81; (with_reducible refine (CO _).mono ?_); rintro e w1 ⟨rfl, b1⟩; have y0 := cb b1 n2 n0; have y1 := cb b1 n2 n1))
    clear n0 n1 n2
    go_wp2
    go_ret
    refine ⟨ret_i64 E.out, ?_⟩
    repeat (first | exact Below.refl _ _ | with_reducible refine ba ?_ _ | with_reducible refine bs ?_ (by omega) _ | with_reducible refine bd ?_ | (with_reducible refine bt ?_ (by assumption)))
  · have hne := whi_out (x := x) (by omega)
    generalize hi (wrap64 (lo x)) = h' at *
    have hb : (hi x == h') = false := beq_eq_false_iff_ne.2 hne
    have E := hide (hl x)
    have l0 := lo0 x
    have l1 := lo1 x
    have NE := hide h
    clear hne h
    by_cases hn : hi x < 0
    · have dn : decide (hi x < 0) = true := decide_eq_true hn
      rw [holdI_lo (by have := E.out; have := NE.out; omega)]
      go_enter Tryz.func82, Tryz.ntmps82
      go_wp2
      go_region_held3 (fun w' => w'.cell? ⟨w.heap.size, 0, none⟩ = some (.int .i64 (hi x)) ∧ w'.cell? ⟨w.heap.size, 1, none⟩ = some (.int .u64 (lo x)))
        (first | exact ⟨n0, n1⟩ | exact ⟨y0, y1⟩)
        (first
          | (go_at_call 81; (with_reducible refine (CO _).mono ?_); rintro e w1 ⟨rfl, b1⟩; have y0 := cb b1 n2 n0; have y1 := cb b1 n2 n1))
      clear n0 n1 n2
      go_wp2
      go_ret
      refine ⟨rfl, ?_⟩
      repeat (first | exact Below.refl _ _ | with_reducible refine ba ?_ _ | with_reducible refine bs ?_ (by omega) _ | with_reducible refine bd ?_ | (with_reducible refine bt ?_ (by assumption)))
    · have dn : decide (hi x < 0) = false := decide_eq_false hn
      rw [holdI_hi (by have := E.out; have := NE.out; omega)]
      go_enter Tryz.func82, Tryz.ntmps82
      go_wp2
      go_region_held3 (fun w' => w'.cell? ⟨w.heap.size, 0, none⟩ = some (.int .i64 (hi x)) ∧ w'.cell? ⟨w.heap.size, 1, none⟩ = some (.int .u64 (lo x)))
        (first | exact ⟨n0, n1⟩ | exact ⟨y0, y1⟩)
        (first
          | (go_at_call 81; (with_reducible refine (CO _).mono ?_); rintro e w1 ⟨rfl, b1⟩; have y0 := cb b1 n2 n0; have y1 := cb b1 n2 n1))
      clear n0 n1 n2
      go_wp2
      go_ret
      refine ⟨rfl, ?_⟩
      repeat (first | exact Below.refl _ _ | with_reducible refine ba ?_ _ | with_reducible refine bs ?_ (by omega) _ | with_reducible refine bd ?_ | (with_reducible refine bt ?_ (by assumption)))
/-- The library's long quotient at these numbers. -/
def Div64At (h l d : Int) : Prop := ∀ w : World, Calls Tryz.prog 103 #[.int .u64 h, .int .u64 l, .int .u64 d] w fun e w' => e = .returned (.tuple #[.int .u64 ((h * 18446744073709551616 + l) / d), .int .u64 ((h * 18446744073709551616 + l) % d)]) ∧ Below w.heap.size w w'
theorem div64_zero (l d : Int) (l0 : 0 ≤ l) (l1 : l < 18446744073709551616) (d0 : 0 < d) (d1 : d < 18446744073709551616) : Div64At 0 l d := by
  intro w
  rw [Int.zero_mul, Int.zero_add]
  have hd : (d == 0) = false := beq_eq_false_iff_ne.2 (by omega)
  have hd2 : decide (d ≤ 0) = false := decide_eq_false (by omega)
  have hd3 : d ≠ 0 := by omega
  go_enter Tryz.func103, Tryz.ntmps103
  go_wp2
  go_region
  go_wp2
  go_ret2
  exact ⟨rfl, bd (Below.refl _ _)⟩
theorem divide_any (x d : Int) (h0 : 0 ≤ x) (h1 : x < 170141183460469231731687303715884105728) (d0 : 0 < d) (d1 : d < 18446744073709551616) (CD : Div64At (hi x % d) (lo x) d) (w : World) :
    Calls Tryz.prog 79 #[.agg #[.int .i64 (hi x), .int .u64 (lo x)], .int .u64 d] w fun e w' => e = .returned (.tuple #[.agg #[.int .i64 (hi (x / d)), .int .u64 (lo (x / d))], .int .u64 (x % d)]) ∧ Below w.heap.size w w' := by
  have g0 := hi0 h0
  have g1 := hiS1 h1
  have hd : (d == 0) = false := beq_eq_false_iff_ne.2 (by omega)
  have hd2 : d ≠ 0 := by omega
  obtain ⟨D1, D2, D3⟩ := div_halves (x := x) d0
  have em : (hi x).tmod d = hi x % d := tmod_pp g0
  have CD : ∀ w : World, Calls Tryz.prog 103 #[.int .u64 ((hi x).tmod d), .int .u64 (lo x), .int .u64 d] w fun e w' => e = .returned (.tuple #[.int .u64 (lo (x / d)), .int .u64 (x % d)]) ∧ Below w.heap.size w w' := by
    rw [em, ← D2, ← D3]; exact CD
  have E1 := hide D1
  clear D1 D2 D3 em
  go_enter Tryz.func79, Tryz.ntmps79
  go_wp2
  have n0 := ca (ob := .cells #[.int .i64 0, .int .u64 0] 111) (new_ltL w (.cells #[.int .i64 (hi x), .int .u64 (lo x)] 111)) (new1L w (.int .i64 (hi x)) (.int .u64 (lo x)) 111)
  have n2 : w.heap.size < ((w.alloc (.cells #[.int .i64 (hi x), .int .u64 (lo x)] 111)).alloc (.cells #[.int .i64 0, .int .u64 0] 111)).heap.size := by simp; omega
  go_region_held3 (fun w' => w'.cell? ⟨w.heap.size, 1, none⟩ = some (.int .u64 (lo x)))
    (first | exact n0 | exact y0)
    (first
      | (go_at_call 103; (with_reducible refine (CD _).mono ?_); rintro e w1 ⟨rfl, b1⟩; have y0 := cb b1 n2 n0;
          have q0 : w1.cell? ⟨w.heap.size + 1, 0, none⟩ = some (.int .i64 0) := cb b1 (by simp) (by simp);
          have q1 : w1.cell? ⟨w.heap.size + 1, 1, none⟩ = some (.int .u64 0) := cb b1 (by simp) (by simp);
          have q2 : w1.frozen? ⟨w.heap.size + 1, 0, none⟩ = false := fb b1 (by simp) (by simp);
          have q3 : w1.frozen? ⟨w.heap.size + 1, 1, none⟩ = false := fb b1 (by simp) (by simp)))
  clear n0 n2
  have s0 : 0 ≤ hi x / d := Int.ediv_nonneg g0 (by omega)
  have s1 : hi x / d ≤ 9223372036854775807 := Int.le_trans (Int.ediv_le_self _ g0) g1
  go_wp2
  refine bodyPost_ret (v := .tuple #[.agg #[.int .i64 (hi x / d), .int .u64 (lo (x / d))], .int .u64 (x % d)]) (by simp [results, Tryz.results79, go_sem, q0, q1]) rfl ⟨by rw [E1.out], ?_⟩
  repeat (first | exact Below.refl _ _ | with_reducible refine ba ?_ _ | with_reducible refine bs ?_ (by omega) _ | with_reducible refine bd ?_ | (with_reducible refine bt ?_ (by assumption)))
theorem down_any (x : Int) (n : Nat) (h0 : -170141183460469231731687303715884105728 ≤ x) (h1 : x < 170141183460469231731687303715884105728) (hn : n ≤ 127) (w : World) :
    Calls Tryz.prog 107 #[.agg #[.int .i64 (hi x), .int .u64 (lo x)], .int .i64 n] w fun e w' => e = .returned (.agg #[.int .i64 (hi (x / 2 ^ n)), .int .u64 (lo (x / 2 ^ n))]) ∧ Below w.heap.size w w' := by
  have g0 := hiS0 h0
  have g1 := hiS1 h1
  by_cases h : 64 ≤ n
  · have e := down_far (x := x) h
    have p := pow2_pos (n - 64)
    have s0 : -9223372036854775808 ≤ hi x / 2 ^ (n - 64) := Int.le_trans (by omega) (Int.le_ediv_of_mul_le p (show -9223372036854775808 * 2 ^ (n - 64) ≤ hi x from Int.le_trans (by omega) g0))
    have s1 : hi x / 2 ^ (n - 64) ≤ 9223372036854775807 := by
      have : hi x / 2 ^ (n - 64) < 9223372036854775808 := Int.ediv_lt_of_lt_mul p (by omega)
      omega
    have CO := of_any (hi x / 2 ^ (n - 64)) s0 s1
    have E := hide e
    clear e s0 s1 p
    go_enter Tryz.func107, Tryz.ntmps107
    go_wp2_with (first
        | (go_at_call 81; (with_reducible refine (CO _).mono ?_); rintro e w2 ⟨rfl, b2⟩;
            have q0 : w2.cell? ⟨w.heap.size + 1, 0, none⟩ = some (.int .i64 0) := cb b2 (by simp) (by simp);
            have q1 : w2.cell? ⟨w.heap.size + 1, 1, none⟩ = some (.int .u64 0) := cb b2 (by simp) (by simp);
            have q2 : w2.frozen? ⟨w.heap.size + 1, 0, none⟩ = false := fb b2 (by simp) (by simp);
            have q3 : w2.frozen? ⟨w.heap.size + 1, 1, none⟩ = false := fb b2 (by simp) (by simp)))
    refine bodyPost_ret (v := .agg #[.int .i64 (hi (hi x / 2 ^ (n - 64))), .int .u64 (lo (hi x / 2 ^ (n - 64)))]) (by simp [results, Tryz.results107, go_sem, q0, q1]) rfl ⟨by rw [E.out], ?_⟩
    repeat (first | exact Below.refl _ _ | with_reducible refine ba ?_ _ | with_reducible refine bs ?_ (by omega) _ | with_reducible refine bd ?_ | (with_reducible refine bt ?_ (by assumption)))
  · go_enter Tryz.func107, Tryz.ntmps107
    go_wp2
    go_region
    go_wp2
    refine bodyPost_ret (v := .agg #[.int .i64 (hi (x / 2 ^ n)), .int .u64 (lo (x / 2 ^ n))]) (by simp [results, Tryz.results107, go_sem]; exact ⟨down_hi, down_lo (by omega)⟩) rfl ⟨rfl, ?_⟩
    repeat (first | exact Below.refl _ _ | with_reducible refine ba ?_ _ | with_reducible refine bs ?_ (by omega) _ | with_reducible refine bd ?_ | (with_reducible refine bt ?_ (by assumption)))
end Go.Proofs.YtlknopmpbkepjaaGreatDoor
