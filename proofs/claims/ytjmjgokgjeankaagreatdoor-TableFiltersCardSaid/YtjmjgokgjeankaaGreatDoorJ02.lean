/- Parts, joined. -/
import Derived.Test.YtjmjgokgjeankaaGreatDoorJ01
import Derived.Test.YtjmjgokgjeankaaGreatDoorProg
import Derived.WalkKit
import Derived.WalkSpells
import Derived.WalkLawsBesides
/- What the small calls of the document's answers (layer 1) do to the world: numbers of 128 bits. -/
namespace Go.Proofs.YtjmjgokgjeankaaGreatDoor
open Go.RowKit


theorem hide {p : Prop} (h : p) : Hid p := h
theorem below1 (w : World) (o : Obj) : Below w.heap.size w (w.alloc o) := (Below.refl _ _).alloc (Nat.le_refl _) _
theorem ret_u64 {a b : Int} (h : a = b) : Ending.returned (.int .u64 a) = .returned (.int .u64 b) := by rw [h]
theorem ret_i64 {a b : Int} (h : a = b) : Ending.returned (.int .i64 a) = .returned (.int .i64 b) := by rw [h]
theorem ret_bool {a b : Bool} (h : a = b) : Ending.returned (.bool a) = .returned (.bool b) := by rw [h]
theorem big_of {h l x : Int} (e : h * 18446744073709551616 + l = x) (l0 : 0 ≤ l) (l1 : l < 18446744073709551616) : h = hi x ∧ l = lo x := ⟨hi_of e l0 l1, lo_of e l0 l1⟩
theorem refsize_any (x : Int) (h0 : -9223372036854775808 ≤ x) (h1 : x ≤ 9223372036854775807) (w : World) :
    Calls Tryz.prog 70 #[.int .i64 x] w fun e w' => e = .returned (.int .u64 (absI x)) ∧ w = w' := by
  go_enter Tryz.func70, Tryz.ntmps70
  go_wp2
  · rename_i h
    go_ret
    exact ⟨ret_u64 (by rw [absI_neg h]; omega), rfl⟩
  · rename_i h
    go_ret
    exact ⟨ret_u64 (by rw [absI_pos h]), rfl⟩
theorem fixsize_any (x : Int) (h0 : -9223372036854775808 ≤ x) (h1 : x ≤ 9223372036854775807) (w : World) :
    Calls Tryz.prog 92 #[.int .i64 x] w fun e w' => e = .returned (.int .u64 (absI x)) ∧ w = w' := by
  go_enter Tryz.func92, Tryz.ntmps92
  go_wp2
  · rename_i h
    go_ret
    exact ⟨ret_u64 (by rw [absI_neg h, IntKind.wrap_u64, IntKind.wrap_u64]; omega), rfl⟩
  · rename_i h
    go_ret
    exact ⟨ret_u64 (by rw [absI_pos h]), rfl⟩
theorem and_one (a : Int) (h0 : 0 ≤ a) (h1 : a < 18446744073709551616) : bits .and .u64 a 1 = a % 2 := and_one_u64 a h0 (by omega)
theorem div_pow_lt {a n : Int} (k : Nat) (h0 : 0 ≤ a) (h1 : a < n) : a / 2 ^ k < n :=
  Int.lt_of_le_of_lt (Int.ediv_le_self _ h0) h1
theorem bit_any (x : Int) (i : Nat) (h0 : 0 ≤ x) (h1 : x < 340282366920938463463374607431768211456) (i1 : i < 128) (w : World) :
    Calls Tryz.prog 100 #[.agg #[.int .u64 (hi x), .int .u64 (lo x)], .int .i64 i] w fun e w' => e = .returned (.int .u64 (bitI x i)) ∧ Below w.heap.size w w' := by
  have l0 := lo0 x
  have l1 := lo1 x
  have g0 := hi0 h0
  have g1 := hi1 h1
  have E1 := hide (bitI_hi x i)
  have E2 := hide (bitI_lo x i)
  clear h0 h1
  by_cases h : 64 ≤ i
  · go_enter Tryz.func100, Tryz.ntmps100
    go_wp2
    go_ret
    exact ⟨ret_u64 (by rw [and_one _ (Int.ediv_nonneg g0 (Int.le_of_lt (pow2_pos _))) (div_pow_lt _ g0 g1)]; exact E1.out h), below1 _ _⟩
  · go_enter Tryz.func100, Tryz.ntmps100
    go_wp2
    go_ret
    exact ⟨ret_u64 (by rw [and_one _ (Int.ediv_nonneg l0 (Int.le_of_lt (pow2_pos _))) (div_pow_lt _ l0 l1)]; exact E2.out (by omega)), below1 _ _⟩
theorem below2 (w : World) (o p : Obj) : Below w.heap.size w ((w.alloc o).alloc p) := (below1 w o).alloc (by simp) _
theorem below3 (w : World) (o p q : Obj) : Below w.heap.size w (((w.alloc o).alloc p).alloc q) := (below2 w o p).alloc (by simp; omega) _
theorem below4 (w : World) (o p q r : Obj) : Below w.heap.size w ((((w.alloc o).alloc p).alloc q).alloc r) := (below3 w o p q).alloc (by simp; omega) _
theorem twice_any (x b : Int) (h0 : 0 ≤ x) (h1 : x < 170141183460469231731687303715884105728) (b0 : 0 ≤ b) (b1 : b ≤ 1) (w : World) :
    Calls Tryz.prog 99 #[.agg #[.int .u64 (hi x), .int .u64 (lo x)], .int .u64 b] w fun e w' => e = .returned (.agg #[.int .u64 (hi (2 * x + b)), .int .u64 (lo (2 * x + b))]) ∧ Below w.heap.size w w' := by
  have l0 := lo0 x
  have l1 := lo1 x
  have g0 := hi0 h0
  have g1 : hi x < 9223372036854775808 := by unfold hi; omega
  have E := hide (hl x)
  clear h0 h1
  go_enter Tryz.func99, Tryz.ntmps99
  go_wp2
  simp [bodyPost, results, Tryz.results99, go_sem]
  have e := E.out
  have m : IntKind.u64.wrap (IntKind.u64.wrap (lo x * 2) + b) = lo x * 2 % 18446744073709551616 + b := by rw [IntKind.wrap_u64, IntKind.wrap_u64]; omega
  rw [m]
  exact ⟨⟨hi_of (l := lo x * 2 % 18446744073709551616 + b) (by omega) (by omega) (by omega), lo_of (h := hi x * 2 + lo x / 9223372036854775808) (by omega) (by omega) (by omega)⟩, below2 _ _ _⟩
theorem plus_any (x y : Int) (h0 : 0 ≤ x) (k0 : 0 ≤ y) (h1 : x + y < 340282366920938463463374607431768211456) (w : World) :
    Calls Tryz.prog 71 #[.agg #[.int .u64 (hi x), .int .u64 (lo x)], .agg #[.int .u64 (hi y), .int .u64 (lo y)]] w fun e w' => e = .returned (.agg #[.int .u64 (hi (x + y)), .int .u64 (lo (x + y))]) ∧ Below w.heap.size w w' := by
  have l0 := lo0 x
  have l1 := lo1 x
  have m0 := lo0 y
  have m1 := lo1 y
  have g0 := hi0 h0
  have g1 := hi0 k0
  have g2 : hi x + hi y < 18446744073709551616 := by unfold hi; omega
  have E := hide (hl x)
  have F := hide (hl y)
  have G := hide h1
  clear h0 k0 h1
  by_cases h : lo x + lo y < 18446744073709551616
  · go_enter Tryz.func71, Tryz.ntmps71
    go_wp2
    simp [bodyPost, results, Tryz.results71, go_sem]
    have e := E.out
    have f := F.out
    exact ⟨big_of (by omega) (by omega) (by omega), below4 _ _ _ _ _⟩
  · go_enter Tryz.func71, Tryz.ntmps71
    go_wp2
    all_goals simp [bodyPost, results, Tryz.results71, go_sem]
    all_goals
      rename_i hc
      have e := E.out
      have f := F.out
      have g := G.out
      simp only [IntKind.wrap_u64] at hc
      have g4 : hi x + hi y + 1 < 18446744073709551616 := by omega
      have w1 : IntKind.u64.wrap (lo x + lo y) = lo x + lo y - 18446744073709551616 := by rw [IntKind.wrap_u64]; omega
      have w2 : IntKind.u64.wrap (hi x + hi y + 1) = hi x + hi y + 1 := by rw [IntKind.wrap_u64]; omega
      first
        | omega
        | (rw [w1, w2]; exact ⟨big_of (by omega) (by omega) (by omega), below4 _ _ _ _ _⟩)
theorem minus_any (x y : Int) (h0 : 0 ≤ y) (k0 : y ≤ x) (h1 : x < 340282366920938463463374607431768211456) (w : World) :
    Calls Tryz.prog 102 #[.agg #[.int .u64 (hi x), .int .u64 (lo x)], .agg #[.int .u64 (hi y), .int .u64 (lo y)]] w fun e w' => e = .returned (.agg #[.int .u64 (hi (x - y)), .int .u64 (lo (x - y))]) ∧ Below w.heap.size w w' := by
  have l0 := lo0 x
  have l1 := lo1 x
  have m0 := lo0 y
  have m1 := lo1 y
  have g0 : 0 ≤ hi x := hi0 (by omega)
  have g1 := hi0 h0
  have g2 : hi x < 18446744073709551616 := hi1 h1
  have g3 : hi y ≤ hi x := by unfold hi; omega
  have E := hide (hl x)
  have F := hide (hl y)
  have G := hide k0
  clear h0 k0 h1
  by_cases h : lo y ≤ lo x
  · go_enter Tryz.func102, Tryz.ntmps102
    go_wp2
    simp [bodyPost, results, Tryz.results102, go_sem]
    have e := E.out
    have f := F.out
    exact ⟨big_of (by omega) (by omega) (by omega), below4 _ _ _ _ _⟩
  · go_enter Tryz.func102, Tryz.ntmps102
    go_wp2
    simp [bodyPost, results, Tryz.results102, go_sem]
    have e := E.out
    have f := F.out
    have g := G.out
    have w1 : IntKind.u64.wrap (lo x - lo y) = lo x - lo y + 18446744073709551616 := by rw [IntKind.wrap_u64]; omega
    have w2 : IntKind.u64.wrap (hi x - hi y - 1) = hi x - hi y - 1 := by rw [IntKind.wrap_u64]; omega
    rw [w1, w2]
    exact ⟨big_of (by omega) (by omega) (by omega), below4 _ _ _ _ _⟩
theorem less_any (x y : Int) (h0 : 0 ≤ x) (k0 : 0 ≤ y) (h1 : x < 340282366920938463463374607431768211456) (k1 : y < 340282366920938463463374607431768211456) (w : World) :
    Calls Tryz.prog 101 #[.agg #[.int .u64 (hi x), .int .u64 (lo x)], .agg #[.int .u64 (hi y), .int .u64 (lo y)]] w fun e w' => e = .returned (.bool (decide (x < y))) ∧ Below w.heap.size w w' := by
  have l0 := lo0 x
  have l1 := lo1 x
  have m0 := lo0 y
  have m1 := lo1 y
  have g0 := hi0 h0
  have g1 := hi0 k0
  have g2 := hi1 h1
  have g3 := hi1 k1
  have E := hide (hl x)
  have F := hide (hl y)
  clear h0 k0 h1 k1
  go_enter Tryz.func101, Tryz.ntmps101
  go_wp2
  · rename_i hc
    go_ret
    have e := E.out
    have f := F.out
    have hc' : hi x ≠ hi y := by simpa using hc
    exact ⟨ret_bool (decide_eq_decide.2 (by omega)), below2 _ _ _⟩
  · rename_i hc
    go_ret
    have e := E.out
    have f := F.out
    have hc' : hi x = hi y := by simpa using hc
    exact ⟨ret_bool (decide_eq_decide.2 (by omega)), below2 _ _ _⟩
/-- A number without sign, and its sign: held. -/
def signI (x : Int) (below : Bool) : Int := if below = true then -x else x
theorem hold_true (x : Int) (h0 : 0 ≤ x) (h1 : x < 340282366920938463463374607431768211456) (w : World) :
    Calls Tryz.prog 72 #[.agg #[.int .u64 (hi x), .int .u64 (lo x)], .bool true] w fun e w' => e = .returned (.int .i64 (holdI (-x))) ∧ Below w.heap.size w w' := by
  have l0 := lo0 x
  have l1 := lo1 x
  have g0 := hi0 h0
  have g1 := hi1 h1
  have E := hide (hl x)
  clear h0 h1
  by_cases c1 : 0 < hi x
  · go_enter Tryz.func72, Tryz.ntmps72
    go_wp2
    go_ret
    have e := E.out
    exact ⟨ret_i64 (by rw [holdI_lo (by omega)]), below1 _ _⟩
  · by_cases c2 : 9223372036854775807 < lo x
    · go_enter Tryz.func72, Tryz.ntmps72
      go_wp2
      go_ret
      have e := E.out
      exact ⟨ret_i64 (by rw [holdI_lo (by omega)]), below1 _ _⟩
    · go_enter Tryz.func72, Tryz.ntmps72
      go_wp2
      go_ret
      have e := E.out
      exact ⟨ret_i64 (by rw [holdI_in (by omega) (by omega)]; omega), below1 _ _⟩
theorem hold_false (x : Int) (h0 : 0 ≤ x) (h1 : x < 340282366920938463463374607431768211456) (w : World) :
    Calls Tryz.prog 72 #[.agg #[.int .u64 (hi x), .int .u64 (lo x)], .bool false] w fun e w' => e = .returned (.int .i64 (holdI x)) ∧ Below w.heap.size w w' := by
  have l0 := lo0 x
  have l1 := lo1 x
  have g0 := hi0 h0
  have g1 := hi1 h1
  have E := hide (hl x)
  clear h0 h1
  by_cases c1 : 0 < hi x
  · go_enter Tryz.func72, Tryz.ntmps72
    go_wp2
    go_ret
    have e := E.out
    exact ⟨ret_i64 (by rw [holdI_hi (by omega)]), below1 _ _⟩
  · by_cases c2 : 9223372036854775807 < lo x
    · go_enter Tryz.func72, Tryz.ntmps72
      go_wp2
      go_ret
      have e := E.out
      exact ⟨ret_i64 (by rw [holdI_hi (by omega)]), below1 _ _⟩
    · go_enter Tryz.func72, Tryz.ntmps72
      go_wp2
      go_ret
      have e := E.out
      exact ⟨ret_i64 (by rw [holdI_in (by omega) (by omega)]; omega), below1 _ _⟩
theorem hold_any (x : Int) (b : Bool) (h0 : 0 ≤ x) (h1 : x < 340282366920938463463374607431768211456) (w : World) :
    Calls Tryz.prog 72 #[.agg #[.int .u64 (hi x), .int .u64 (lo x)], .bool b] w fun e w' => e = .returned (.int .i64 (holdI (signI x b))) ∧ Below w.heap.size w w' := by
  cases b
  · exact hold_false x h0 h1 w
  · exact hold_true x h0 h1 w
end Go.Proofs.YtjmjgokgjeankaaGreatDoor
