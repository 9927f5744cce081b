/- Parts, joined. -/
import Derived.Test.YtdpkigdfhfippaaGreatDoorJ01
import Derived.Test.YtdpkigdfhfippaaGreatDoorProg
import Derived.WalkKit
import Derived.WalkSpells
import Derived.WalkLawsBesides
import Derived.Deep.RegionHeld3
import Derived.Deep.DeepCutAuto
/- What the small calls of the document's answers (layer 1) do to the world: numbers of 128 bits. -/
namespace Go.Proofs.YtdpkigdfhfippaaGreatDoor
open Go.RowKit


theorem hide {p : Prop} (h : p) : Hid p := h
theorem below1 (w : World) (o : Obj) : Below w.heap.size w (w.alloc o) := (Below.refl _ _).alloc (Nat.le_refl _) _
theorem ret_u64 {a b : Int} (h : a = b) : Ending.returned (.int .u64 a) = .returned (.int .u64 b) := by rw [h]
theorem ret_i64 {a b : Int} (h : a = b) : Ending.returned (.int .i64 a) = .returned (.int .i64 b) := by rw [h]
theorem ret_bool {a b : Bool} (h : a = b) : Ending.returned (.bool a) = .returned (.bool b) := by rw [h]
theorem big_of {h l x : Int} (e : h * 18446744073709551616 + l = x) (l0 : 0 ≤ l) (l1 : l < 18446744073709551616) : h = hi x ∧ l = lo x := ⟨hi_of e l0 l1, lo_of e l0 l1⟩
theorem refsize_any (x : Int) (h0 : -9223372036854775808 ≤ x) (h1 : x ≤ 9223372036854775807) (w : World) :
    Calls Tryz.prog 84 #[.int .i64 x] w fun e w' => e = .returned (.int .u64 (absI x)) ∧ w = w' := by
  go_enter Tryz.func84, Tryz.ntmps84
  go_wp2
  · rename_i h
    go_ret
    exact ⟨ret_u64 (by rw [absI_neg h]; omega), rfl⟩
  · rename_i h
    go_ret
    exact ⟨ret_u64 (by rw [absI_pos h]), rfl⟩
theorem fixsize_any (x : Int) (h0 : -9223372036854775808 ≤ x) (h1 : x ≤ 9223372036854775807) (w : World) :
    Calls Tryz.prog 143 #[.int .i64 x] w fun e w' => e = .returned (.int .u64 (absI x)) ∧ w = w' := by
  go_enter Tryz.func143, Tryz.ntmps143
  go_wp2
  · rename_i h
    go_ret
    exact ⟨ret_u64 (by rw [absI_neg h, IntKind.wrap_u64, IntKind.wrap_u64]; omega), rfl⟩
  · rename_i h
    go_ret
    exact ⟨ret_u64 (by rw [absI_pos h]), rfl⟩
theorem and_one (a : Int) (h0 : 0 ≤ a) (h1 : a < 18446744073709551616) : bits .and .u64 a 1 = a % 2 := and_one_u64 a h0 (by omega)
theorem div_pow_lt {a n : Int} (k : Nat) (h0 : 0 ≤ a) (h1 : a < n) : a / 2 ^ k < n :=
  Int.lt_of_le_of_lt (Int.ediv_le_self _ h0) h1
theorem bit_any (x : Int) (i : Nat) (h0 : 0 ≤ x) (h1 : x < 340282366920938463463374607431768211456) (i1 : i < 128) (w : World) :
    Calls Tryz.prog 106 #[.agg #[.int .u64 (hi x), .int .u64 (lo x)], .int .i64 i] w fun e w' => e = .returned (.int .u64 (bitI x i)) ∧ Below w.heap.size w w' := by
  have l0 := lo0 x
  have l1 := lo1 x
  have g0 := hi0 h0
  have g1 := hi1 h1
  have E1 := hide (bitI_hi x i)
  have E2 := hide (bitI_lo x i)
  clear h0 h1
  by_cases h : 64 ≤ i
  · go_enter Tryz.func106, Tryz.ntmps106
    go_wp2
    go_ret
    exact ⟨ret_u64 (by rw [and_one _ (Int.ediv_nonneg g0 (Int.le_of_lt (pow2_pos _))) (div_pow_lt _ g0 g1)]; exact E1.out h), below1 _ _⟩
  · go_enter Tryz.func106, Tryz.ntmps106
    go_wp2
    go_ret
    exact ⟨ret_u64 (by rw [and_one _ (Int.ediv_nonneg l0 (Int.le_of_lt (pow2_pos _))) (div_pow_lt _ l0 l1)]; exact E2.out (by omega)), below1 _ _⟩
theorem below2 (w : World) (o p : Obj) : Below w.heap.size w ((w.alloc o).alloc p) := (below1 w o).alloc (by simp) _
theorem below3 (w : World) (o p q : Obj) : Below w.heap.size w (((w.alloc o).alloc p).alloc q) := (below2 w o p).alloc (by simp; omega) _
theorem below4 (w : World) (o p q r : Obj) : Below w.heap.size w ((((w.alloc o).alloc p).alloc q).alloc r) := (below3 w o p q).alloc (by simp; omega) _
theorem twice_any (x b : Int) (h0 : 0 ≤ x) (h1 : x < 170141183460469231731687303715884105728) (b0 : 0 ≤ b) (b1 : b ≤ 1) (w : World) :
    Calls Tryz.prog 105 #[.agg #[.int .u64 (hi x), .int .u64 (lo x)], .int .u64 b] w fun e w' => e = .returned (.agg #[.int .u64 (hi (2 * x + b)), .int .u64 (lo (2 * x + b))]) ∧ Below w.heap.size w w' := by
  have l0 := lo0 x
  have l1 := lo1 x
  have g0 := hi0 h0
  have g1 : hi x < 9223372036854775808 := by unfold hi; omega
  have E := hide (hl x)
  clear h0 h1
  go_enter Tryz.func105, Tryz.ntmps105
  go_wp2
  simp [bodyPost, results, Tryz.results105, go_sem]
  have e := E.out
  have m : IntKind.u64.wrap (IntKind.u64.wrap (lo x * 2) + b) = lo x * 2 % 18446744073709551616 + b := by rw [IntKind.wrap_u64, IntKind.wrap_u64]; omega
  rw [m]
  exact ⟨⟨hi_of (l := lo x * 2 % 18446744073709551616 + b) (by omega) (by omega) (by omega), lo_of (h := hi x * 2 + lo x / 9223372036854775808) (by omega) (by omega) (by omega)⟩, below2 _ _ _⟩
theorem plus_any (x y : Int) (h0 : 0 ≤ x) (k0 : 0 ≤ y) (h1 : x + y < 340282366920938463463374607431768211456) (w : World) :
    Calls Tryz.prog 103 #[.agg #[.int .u64 (hi x), .int .u64 (lo x)], .agg #[.int .u64 (hi y), .int .u64 (lo y)]] w fun e w' => e = .returned (.agg #[.int .u64 (hi (x + y)), .int .u64 (lo (x + y))]) ∧ Below w.heap.size w w' := by
  have l0 := lo0 x
  have l1 := lo1 x
  have m0 := lo0 y
  have m1 := lo1 y
  have g0 := hi0 h0
  have g1 := hi0 k0
  have g2 : hi x + hi y < 18446744073709551616 := by unfold hi; omega
  have E := hide (hl x)
  have F := hide (hl y)
  have G := hide h1
  clear h0 k0 h1
  by_cases h : lo x + lo y < 18446744073709551616
  · go_enter Tryz.func103, Tryz.ntmps103
    go_wp2
    simp [bodyPost, results, Tryz.results103, go_sem]
    have e := E.out
    have f := F.out
    exact ⟨big_of (by omega) (by omega) (by omega), below4 _ _ _ _ _⟩
  · go_enter Tryz.func103, Tryz.ntmps103
    go_wp2
    all_goals simp [bodyPost, results, Tryz.results103, go_sem]
    all_goals
      rename_i hc
      have e := E.out
      have f := F.out
      have g := G.out
      simp only [IntKind.wrap_u64] at hc
      have g4 : hi x + hi y + 1 < 18446744073709551616 := by omega
      have w1 : IntKind.u64.wrap (lo x + lo y) = lo x + lo y - 18446744073709551616 := by rw [IntKind.wrap_u64]; omega
      have w2 : IntKind.u64.wrap (hi x + hi y + 1) = hi x + hi y + 1 := by rw [IntKind.wrap_u64]; omega
      first
        | omega
        | (rw [w1, w2]; exact ⟨big_of (by omega) (by omega) (by omega), below4 _ _ _ _ _⟩)
theorem minus_any (x y : Int) (h0 : 0 ≤ y) (k0 : y ≤ x) (h1 : x < 340282366920938463463374607431768211456) (w : World) :
    Calls Tryz.prog 107 #[.agg #[.int .u64 (hi x), .int .u64 (lo x)], .agg #[.int .u64 (hi y), .int .u64 (lo y)]] w fun e w' => e = .returned (.agg #[.int .u64 (hi (x - y)), .int .u64 (lo (x - y))]) ∧ Below w.heap.size w w' := by
  have l0 := lo0 x
  have l1 := lo1 x
  have m0 := lo0 y
  have m1 := lo1 y
  have g0 : 0 ≤ hi x := hi0 (by omega)
  have g1 := hi0 h0
  have g2 : hi x < 18446744073709551616 := hi1 h1
  have g3 : hi y ≤ hi x := by unfold hi; omega
  have E := hide (hl x)
  have F := hide (hl y)
  have G := hide k0
  clear h0 k0 h1
  by_cases h : lo y ≤ lo x
  · go_enter Tryz.func107, Tryz.ntmps107
    go_wp2
    simp [bodyPost, results, Tryz.results107, go_sem]
    have e := E.out
    have f := F.out
    exact ⟨big_of (by omega) (by omega) (by omega), below4 _ _ _ _ _⟩
  · go_enter Tryz.func107, Tryz.ntmps107
    go_wp2
    simp [bodyPost, results, Tryz.results107, go_sem]
    have e := E.out
    have f := F.out
    have g := G.out
    have w1 : IntKind.u64.wrap (lo x - lo y) = lo x - lo y + 18446744073709551616 := by rw [IntKind.wrap_u64]; omega
    have w2 : IntKind.u64.wrap (hi x - hi y - 1) = hi x - hi y - 1 := by rw [IntKind.wrap_u64]; omega
    rw [w1, w2]
    exact ⟨big_of (by omega) (by omega) (by omega), below4 _ _ _ _ _⟩
theorem less_any (x y : Int) (h0 : 0 ≤ x) (k0 : 0 ≤ y) (h1 : x < 340282366920938463463374607431768211456) (k1 : y < 340282366920938463463374607431768211456) (w : World) :
    Calls Tryz.prog 108 #[.agg #[.int .u64 (hi x), .int .u64 (lo x)], .agg #[.int .u64 (hi y), .int .u64 (lo y)]] w fun e w' => e = .returned (.bool (decide (x < y))) ∧ Below w.heap.size w w' := by
  have l0 := lo0 x
  have l1 := lo1 x
  have m0 := lo0 y
  have m1 := lo1 y
  have g0 := hi0 h0
  have g1 := hi0 k0
  have g2 := hi1 h1
  have g3 := hi1 k1
  have E := hide (hl x)
  have F := hide (hl y)
  clear h0 k0 h1 k1
  go_enter Tryz.func108, Tryz.ntmps108
  go_wp2
  · rename_i hc
    go_ret
    have e := E.out
    have f := F.out
    have hc' : hi x ≠ hi y := by simpa using hc
    exact ⟨ret_bool (decide_eq_decide.2 (by omega)), below2 _ _ _⟩
  · rename_i hc
    go_ret
    have e := E.out
    have f := F.out
    have hc' : hi x = hi y := by simpa using hc
    exact ⟨ret_bool (decide_eq_decide.2 (by omega)), below2 _ _ _⟩
/-- A number without sign, and its sign: held. -/
def signI (x : Int) (below : Bool) : Int := if below = true then -x else x
theorem hold_true (x : Int) (h0 : 0 ≤ x) (h1 : x < 340282366920938463463374607431768211456) (w : World) :
    Calls Tryz.prog 104 #[.agg #[.int .u64 (hi x), .int .u64 (lo x)], .bool true] w fun e w' => e = .returned (.int .i64 (holdI (-x))) ∧ Below w.heap.size w w' := by
  have l0 := lo0 x
  have l1 := lo1 x
  have g0 := hi0 h0
  have g1 := hi1 h1
  have E := hide (hl x)
  clear h0 h1
  by_cases c1 : 0 < hi x
  · go_enter Tryz.func104, Tryz.ntmps104
    go_wp2
    go_ret
    have e := E.out
    exact ⟨ret_i64 (by rw [holdI_lo (by omega)]), below1 _ _⟩
  · by_cases c2 : 9223372036854775807 < lo x
    · go_enter Tryz.func104, Tryz.ntmps104
      go_wp2
      go_ret
      have e := E.out
      exact ⟨ret_i64 (by rw [holdI_lo (by omega)]), below1 _ _⟩
    · go_enter Tryz.func104, Tryz.ntmps104
      go_wp2
      go_ret
      have e := E.out
      exact ⟨ret_i64 (by rw [holdI_in (by omega) (by omega)]; omega), below1 _ _⟩
theorem hold_false (x : Int) (h0 : 0 ≤ x) (h1 : x < 340282366920938463463374607431768211456) (w : World) :
    Calls Tryz.prog 104 #[.agg #[.int .u64 (hi x), .int .u64 (lo x)], .bool false] w fun e w' => e = .returned (.int .i64 (holdI x)) ∧ Below w.heap.size w w' := by
  have l0 := lo0 x
  have l1 := lo1 x
  have g0 := hi0 h0
  have g1 := hi1 h1
  have E := hide (hl x)
  clear h0 h1
  by_cases c1 : 0 < hi x
  · go_enter Tryz.func104, Tryz.ntmps104
    go_wp2
    go_ret
    have e := E.out
    exact ⟨ret_i64 (by rw [holdI_hi (by omega)]), below1 _ _⟩
  · by_cases c2 : 9223372036854775807 < lo x
    · go_enter Tryz.func104, Tryz.ntmps104
      go_wp2
      go_ret
      have e := E.out
      exact ⟨ret_i64 (by rw [holdI_hi (by omega)]), below1 _ _⟩
    · go_enter Tryz.func104, Tryz.ntmps104
      go_wp2
      go_ret
      have e := E.out
      exact ⟨ret_i64 (by rw [holdI_in (by omega) (by omega)]; omega), below1 _ _⟩
theorem hold_any (x : Int) (b : Bool) (h0 : 0 ≤ x) (h1 : x < 340282366920938463463374607431768211456) (w : World) :
    Calls Tryz.prog 104 #[.agg #[.int .u64 (hi x), .int .u64 (lo x)], .bool b] w fun e w' => e = .returned (.int .i64 (holdI (signI x b))) ∧ Below w.heap.size w w' := by
  cases b
  · exact hold_false x h0 h1 w
  · exact hold_true x h0 h1 w
end Go.Proofs.YtdpkigdfhfippaaGreatDoor

/- Long products and quotients of the document's answers (layer 1): their loops. -/
namespace Go.Proofs.YtdpkigdfhfippaaGreatDoor
open Go.RowKit

theorem cb {W w1 : World} {b o : Nat} {v : Value} (hb : Below W.heap.size W w1) (h : b < W.heap.size) (hc : W.cell? ⟨b, o, none⟩ = some v) : w1.cell? ⟨b, o, none⟩ = some v := (hb.cell (p := ⟨b, o, none⟩) h).trans hc
theorem fb {W w1 : World} {b o : Nat} (hb : Below W.heap.size W w1) (h : b < W.heap.size) (hc : W.frozen? ⟨b, o, none⟩ = false) : w1.frozen? ⟨b, o, none⟩ = false := (hb.frozen (p := ⟨b, o, none⟩) h).trans hc
theorem div_pow_half {x : Int} (k : Nat) (h0 : 0 ≤ x) (h1 : x < 340282366920938463463374607431768211456) : x / 2 ^ (k + 1) < 170141183460469231731687303715884105728 := by
  have e : x / 2 ^ (k + 1) = x / 2 / 2 ^ k := by
    have e2 : (2 : Int) ^ (k + 1) = 2 * 2 ^ k := by rw [Int.pow_succ, Int.mul_comm]
    rw [e2, Int.ediv_ediv_of_nonneg (by decide)]
  rw [e]
  exact div_pow_lt k (by omega) (by omega)
theorem div_pow_all {x : Int} (h0 : 0 ≤ x) (h1 : x < 340282366920938463463374607431768211456) : x / 2 ^ 128 = 0 :=
  Int.ediv_eq_zero_of_lt h0 (by simpa using h1)
theorem less_yes (x y h l : Int) (eh : h = hi y) (el : l = lo y) (hlt : x < y) (h0 : 0 ≤ x) (h1 : y < 340282366920938463463374607431768211456) (w : World) :
    Calls Tryz.prog 108 #[.agg #[.int .u64 (hi x), .int .u64 (lo x)], .agg #[.int .u64 h, .int .u64 l]] w fun e w' => e = .returned (.bool true) ∧ Below w.heap.size w w' := by
  subst eh; subst el
  refine (less_any x y h0 (by omega) (by omega) h1 w).mono fun e w' ⟨he, hb⟩ => ⟨?_, hb⟩
  rw [he, decide_eq_true hlt]
theorem less_no (x y h l : Int) (eh : h = hi y) (el : l = lo y) (hlt : y ≤ x) (h0 : 0 ≤ y) (h1 : x < 340282366920938463463374607431768211456) (w : World) :
    Calls Tryz.prog 108 #[.agg #[.int .u64 (hi x), .int .u64 (lo x)], .agg #[.int .u64 h, .int .u64 l]] w fun e w' => e = .returned (.bool false) ∧ Below w.heap.size w w' := by
  subst eh; subst el
  refine (less_any x y (by omega) h0 h1 (by omega) w).mono fun e w' ⟨he, hb⟩ => ⟨?_, hb⟩
  rw [he, decide_eq_false (by omega)]
theorem minus_low (x d : Int) (h0 : 0 ≤ d) (k0 : d ≤ x) (d1 : d < 18446744073709551616) (h1 : x < 340282366920938463463374607431768211456) (w : World) :
    Calls Tryz.prog 107 #[.agg #[.int .u64 (hi x), .int .u64 (lo x)], .agg #[.int .u64 0, .int .u64 d]] w fun e w' => e = .returned (.agg #[.int .u64 (hi (x - d)), .int .u64 (lo (x - d))]) ∧ Below w.heap.size w w' := by
  have h := minus_any x d h0 k0 h1 w
  rw [hi_small h0 d1, lo_small h0 d1] at h
  exact h
/-- What lies in memory at a round's head: the number, the quotient so far, the rest so far. -/
structure OverSt (w wr : World) (x Q R : Int) : Prop where
  x0 : wr.cell? ⟨w.heap.size, 0, none⟩ = some (.int .u64 (hi x))
  x1 : wr.cell? ⟨w.heap.size, 1, none⟩ = some (.int .u64 (lo x))
  q0 : wr.cell? ⟨w.heap.size + 1 + 1, 0, none⟩ = some (.int .u64 (hi Q))
  q1 : wr.cell? ⟨w.heap.size + 1 + 1, 1, none⟩ = some (.int .u64 (lo Q))
  r0 : wr.cell? ⟨w.heap.size + 1 + 1 + 1, 0, none⟩ = some (.int .u64 (hi R))
  r1 : wr.cell? ⟨w.heap.size + 1 + 1 + 1, 1, none⟩ = some (.int .u64 (lo R))
  o0 : ∃ v, wr.cell? ⟨w.heap.size + 1, 0, none⟩ = some v
  o1 : ∃ v, wr.cell? ⟨w.heap.size + 1, 1, none⟩ = some v
  f10 : wr.frozen? ⟨w.heap.size + 1, 0, none⟩ = false
  f11 : wr.frozen? ⟨w.heap.size + 1, 1, none⟩ = false
  f20 : wr.frozen? ⟨w.heap.size + 1 + 1, 0, none⟩ = false
  f21 : wr.frozen? ⟨w.heap.size + 1 + 1, 1, none⟩ = false
  f30 : wr.frozen? ⟨w.heap.size + 1 + 1 + 1, 0, none⟩ = false
  f31 : wr.frozen? ⟨w.heap.size + 1 + 1 + 1, 1, none⟩ = false
  hz : w.heap.size + 1 + 1 + 1 < wr.heap.size
  hb : Below w.heap.size w wr
/-- Behind a call that makes memory. -/
theorem OverSt.below {w wr w1 : World} {x Q R : Int} (h : OverSt w wr x Q R) (hb : Below wr.heap.size wr w1) : OverSt w w1 x Q R := by
  have hz := h.hz
  have hs := hb.size
  obtain ⟨v0, o0⟩ := h.o0
  obtain ⟨v1, o1⟩ := h.o1
  exact ⟨cb hb (by omega) h.x0, cb hb (by omega) h.x1, cb hb (by omega) h.q0, cb hb (by omega) h.q1, cb hb (by omega) h.r0, cb hb (by omega) h.r1, ⟨v0, cb hb (by omega) o0⟩, ⟨v1, cb hb (by omega) o1⟩,
    fb hb (by omega) h.f10, fb hb (by omega) h.f11, fb hb (by omega) h.f20, fb hb (by omega) h.f21, fb hb (by omega) h.f30, fb hb (by omega) h.f31, by omega, h.hb.trans (hb.mono (by omega))⟩
/-- Behind a draw. -/
theorem OverSt.drew {w wr : World} {x Q R : Int} (h : OverSt w wr x Q R) : OverSt w wr.drew x Q R :=
  ⟨h.x0, h.x1, h.q0, h.q1, h.r0, h.r1, h.o0, h.o1, h.f10, h.f11, h.f20, h.f21, h.f30, h.f31, h.hz, h.hb.drew⟩
theorem cs {w : World} {b o b' o' : Nat} {v u : Value} (h : b' ≠ b ∨ o' ≠ o) (hc : w.cell? ⟨b, o, none⟩ = some v) : (w.setCell ⟨b', o', none⟩ u).cell? ⟨b, o, none⟩ = some v := by
  have hne : (⟨b', o', none⟩ : Addr) ≠ ⟨b, o, none⟩ := by
    intro e
    injection e with e1 e2
    omega
  exact (World.cell?_setCell_other _ _ _ _ hne).trans hc
theorem cw {w : World} {b o : Nat} {v u : Value} (hc : w.cell? ⟨b, o, none⟩ = some v) : (w.setCell ⟨b, o, none⟩ u).cell? ⟨b, o, none⟩ = some u := by
  exact World.cell?_setCell_same' _ _ _ (by rw [hc]; rfl)
/-- The rest is written. -/
theorem OverSt.setR {w wr : World} {x Q R R' : Int} (h : OverSt w wr x Q R) :
    OverSt w ((wr.setCell ⟨w.heap.size + 1 + 1 + 1, 0, none⟩ (.int .u64 (hi R'))).setCell ⟨w.heap.size + 1 + 1 + 1, 1, none⟩ (.int .u64 (lo R'))) x Q R' := by
  obtain ⟨v0, o0⟩ := h.o0
  obtain ⟨v1, o1⟩ := h.o1
  exact ⟨cs (by omega) (cs (by omega) h.x0), cs (by omega) (cs (by omega) h.x1), cs (by omega) (cs (by omega) h.q0), cs (by omega) (cs (by omega) h.q1), cs (by omega) (cw h.r0), cw (cs (by omega) h.r1),
    ⟨v0, cs (by omega) (cs (by omega) o0)⟩, ⟨v1, cs (by omega) (cs (by omega) o1)⟩, by simp [h.f10], by simp [h.f11], by simp [h.f20], by simp [h.f21], by simp [h.f30], by simp [h.f31],
    by simpa [World.setCell] using h.hz, (h.hb.setCell (by show _ ≤ w.heap.size + 1 + 1 + 1; omega) _).setCell (by show _ ≤ w.heap.size + 1 + 1 + 1; omega) _⟩
/-- The quotient is written. -/
theorem OverSt.setQ {w wr : World} {x Q R Q' : Int} (h : OverSt w wr x Q R) :
    OverSt w ((wr.setCell ⟨w.heap.size + 1 + 1, 0, none⟩ (.int .u64 (hi Q'))).setCell ⟨w.heap.size + 1 + 1, 1, none⟩ (.int .u64 (lo Q'))) x Q' R := by
  obtain ⟨v0, o0⟩ := h.o0
  obtain ⟨v1, o1⟩ := h.o1
  exact ⟨cs (by omega) (cs (by omega) h.x0), cs (by omega) (cs (by omega) h.x1), cs (by omega) (cw h.q0), cw (cs (by omega) h.q1), cs (by omega) (cs (by omega) h.r0), cs (by omega) (cs (by omega) h.r1),
    ⟨v0, cs (by omega) (cs (by omega) o0)⟩, ⟨v1, cs (by omega) (cs (by omega) o1)⟩, by simp [h.f10], by simp [h.f11], by simp [h.f20], by simp [h.f21], by simp [h.f30], by simp [h.f31],
    by simpa [World.setCell] using h.hz, (h.hb.setCell (by show _ ≤ w.heap.size + 1 + 1; omega) _).setCell (by show _ ≤ w.heap.size + 1 + 1; omega) _⟩
/-- The quotient's lower half is written. -/
theorem OverSt.setL {w wr : World} {x Q R Q' : Int} (h : OverSt w wr x Q R) (e : hi Q = hi Q') :
    OverSt w (wr.setCell ⟨w.heap.size + 1 + 1, 1, none⟩ (.int .u64 (lo Q'))) x Q' R := by
  obtain ⟨v0, o0⟩ := h.o0
  obtain ⟨v1, o1⟩ := h.o1
  exact ⟨cs (by omega) h.x0, cs (by omega) h.x1, cs (by omega) (e ▸ h.q0), cw h.q1, cs (by omega) h.r0, cs (by omega) h.r1,
    ⟨v0, cs (by omega) o0⟩, ⟨v1, cs (by omega) o1⟩, by simp [h.f10], by simp [h.f11], by simp [h.f20], by simp [h.f21], by simp [h.f30], by simp [h.f31],
    by simpa [World.setCell] using h.hz, h.hb.setCell (by show _ ≤ w.heap.size + 1 + 1; omega) _⟩
theorem lo_odd (Q : Int) : IntKind.u64.wrap (lo (2 * Q) + 1) = lo (2 * Q + 1) := by
  rw [IntKind.wrap_u64]; unfold lo; omega
theorem hi_odd (Q : Int) : hi (2 * Q) = hi (2 * Q + 1) := by unfold hi; omega
theorem over_end {w wr w4 w5 : World} {x Q R R' : Int} (h : OverSt w wr x (2 * Q) R) (hb4 : Below wr.heap.size wr w4) (hb5 : Below w4.heap.size w4 w5) :
    OverSt w (((w5.setCell ⟨w.heap.size + 1 + 1 + 1, 0, none⟩ (.int .u64 (hi R'))).setCell ⟨w.heap.size + 1 + 1 + 1, 1, none⟩ (.int .u64 (lo R'))).setCell ⟨w.heap.size + 1 + 1, 1, none⟩ (.int .u64 (IntKind.u64.wrap (lo (2 * Q) + 1)))) x (2 * Q + 1) R' := by
  rw [lo_odd]
  exact (((h.below hb4).below hb5).setR).setL (hi_odd Q)
theorem over_start (w : World) (x d : Int) : OverSt w
    ((((w.alloc (.cells #[.int .u64 (hi x), .int .u64 (lo x)] 133)).alloc (.cells #[.int .u64 0, .int .u64 0] 133)).alloc (.cells #[.int .u64 0, .int .u64 0] 133)).alloc (.cells #[.int .u64 0, .int .u64 0] 133)) x (0 / d) (0 % d) := by
  rw [Int.zero_ediv, Int.zero_emod]
  have e0 : hi 0 = 0 := rfl
  have e1 : lo 0 = 0 := rfl
  refine ⟨?_, ?_, ?_, ?_, ?_, ?_, ⟨.int .u64 0, ?_⟩, ⟨.int .u64 0, ?_⟩, ?_, ?_, ?_, ?_, ?_, ?_, ?_, below4 _ _ _ _ _⟩
  all_goals simp [go_sem, e0, e1]
set_option maxHeartbeats 1000000 in
theorem over_any (x d : Int) (h0 : 0 ≤ x) (h1 : x < 340282366920938463463374607431768211456) (d0 : 0 < d) (d1 : d < 18446744073709551616) (w : World) :
    Calls Tryz.prog 102 #[.agg #[.int .u64 (hi x), .int .u64 (lo x)], .int .u64 d] w fun e w' =>
      e = .returned (.tuple #[.agg #[.int .u64 (hi (x / d)), .int .u64 (lo (x / d))], .int .u64 (x % d)]) ∧ Below w.heap.size w w' := by
  have H0 := hide h0
  have H1 := hide h1
  clear h0 h1
  have hd0 : (d == 0) = false := by simp; omega
  go_enter Tryz.func102, Tryz.ntmps102
  go_wp2
  go_loopw [8] (fun i wr => ∃ j : Nat, j ≤ 128 ∧ i = .int .i64 ((j : Int) - 1) ∧ OverSt w wr x (x / 2 ^ j / d) (x / 2 ^ j % d))
    (fun i _ => (intOf i + 1).toNat)
  case atStart =>
    refine ⟨128, by omega, rfl, ?_⟩
    rw [div_pow_all H0.out H1.out]
    exact over_start w x d
  case round =>
    obtain ⟨j, hj, rfl, hst⟩ := hrel
    by_cases hj0 : j = 0
    · subst hj0
      have ST := hide hst
      obtain ⟨x0, x1, q0, q1, r0, r1, ⟨v0, o0⟩, ⟨v1, o1⟩, f10, f11, f20, f21, f30, f31, hz, hb⟩ := hst
      clear hb
      go_wp2
      go_region
      go_wp2
      have elo : lo (x % d) = x % d := lo_small (Int.emod_nonneg _ (by omega)) (Int.lt_trans (Int.emod_lt_of_pos _ d0) d1)
      refine bodyPost_ret (v := .tuple #[.agg #[.int .u64 (hi (x / d)), .int .u64 (lo (x / d))], .int .u64 (x % d)]) (by simp [results, Tryz.results102, go_sem, o0, o1, elo]) rfl ⟨rfl, ?_⟩
      exact ((ST.out.hb.setCell (by show _ ≤ w.heap.size + 1; omega) _).setCell (by show _ ≤ w.heap.size + 1; omega) _).drew
    · obtain ⟨k, rfl⟩ : ∃ k, j = k + 1 := ⟨j - 1, by omega⟩
      have eh := half_pow x k
      have b0 := bitI0 x k
      have b1 := bitI1 x k
      have P0 : 0 ≤ x / 2 ^ (k + 1) := Int.ediv_nonneg H0.out (Int.le_of_lt (pow2_pos _))
      have P1 : x / 2 ^ (k + 1) < 170141183460469231731687303715884105728 := div_pow_half k H0.out H1.out
      have Q0 : 0 ≤ x / 2 ^ (k + 1) / d := Int.ediv_nonneg P0 (by omega)
      have Q1 : x / 2 ^ (k + 1) / d < 170141183460469231731687303715884105728 := Int.lt_of_le_of_lt (Int.ediv_le_self _ P0) P1
      have R0 : 0 ≤ x / 2 ^ (k + 1) % d := Int.emod_nonneg _ (by omega)
      have R1 : x / 2 ^ (k + 1) % d < d := Int.emod_lt_of_pos _ d0
      have S1 := step_lt (p := x / 2 ^ (k + 1)) d0 b0
      have S2 := step_ge (p := x / 2 ^ (k + 1)) d0 b1
      rw [← eh] at S1 S2
      generalize x / 2 ^ (k + 1) / d = Q at *
      generalize x / 2 ^ (k + 1) % d = R at *
      have T1 := hide S1
      have T2 := hide S2
      clear S1 S2 eh P0 P1
      have ST := hide hst
      obtain ⟨x0, x1, q0, q1, r0, r1, o0, o1, f10, f11, f20, f21, f30, f31, hz, hb⟩ := hst
      clear hb o0 o1
      have ek : ((k + 1 : Nat) : Int) - 1 = (k : Int) := by omega
      rw [ek]
      clear ek
      go_upto_region 8 with (fail)
      go_cut [] (fun wx => OverSt w wx x Q (2 * R + bitI x k))
      case first =>
        go_region_with
          (first
            | (go_at_call 106; refine (bit_any x k H0.out H1.out (by omega) _).mono ?_; rintro e w1 ⟨rfl, hb1⟩;
                have s0 := cb hb1 (by show _ < wr.heap.size; omega) r0;
                have s1 := cb hb1 (by show _ < wr.heap.size; omega) r1)
            | (go_at_call 105; refine (twice_any R (bitI x k) R0 (by omega) b0 b1 _).mono ?_; rintro e w2 ⟨rfl, hb2⟩;
                have hz1 : wr.heap.size ≤ w1.heap.size := hb1.size;
                have s2 := cb hb2 (by omega) s0;
                have s3 := cb hb2 (by omega) s1;
                have t2 := fb hb2 (by omega) (fb hb1 (by show _ < wr.heap.size; omega) f30);
                have t3 := fb hb2 (by omega) (fb hb1 (by show _ < wr.heap.size; omega) f31)))
        all_goals (go_wp2_with fail; go_meet; exact ((ST.out.drew.below hb1).below hb2).setR)
      case rest =>
        clear x0 x1 q0 q1 r0 r1 f10 f11 f20 f21 f30 f31 hz ST
        have ST := hide hcut
        obtain ⟨x0, x1, q0, q1, r0, r1, o0, o1, f10, f11, f20, f21, f30, f31, hz, hb⟩ := hcut
        clear o0 o1 hb x0 x1 r0 r1 f10 f11 f30 f31
        go_upto_region 9 with (fail)
        go_cut [] (fun wx => OverSt w wx x (2 * Q) (2 * R + bitI x k))
        case first =>
          go_wp2_with (first
            | (go_at_call 105; refine (twice_any Q 0 Q0 Q1 (by omega) (by omega) _).mono ?_; rintro e w3 ⟨rfl, hb3⟩;
                  have q3 := cb hb3 (by omega) q0;
                  have q4 := cb hb3 (by omega) q1;
                  have t3 := fb hb3 (by omega) f20;
                  have t4 := fb hb3 (by omega) f21))
          go_meet
          exact (ST.out.below hb3).setQ
        case rest =>
          clear q0 q1 f20 f21 hz ST
          have ST := hide hcut
          obtain ⟨x0, x1, q0, q1, r0, r1, o0, o1, f10, f11, f20, f21, f30, f31, hz, hb⟩ := hcut
          clear o0 o1 hb x0 x1 f10 f11
          by_cases hlt : 2 * R + bitI x k < d
          · have hd := less_yes (2 * R + bitI x k) d 0 d (hi_small (by omega) d1).symm (lo_small (by omega) d1).symm hlt (by omega) (by omega)
            go_wp2_with (go_at_call 108; refine (hd _).mono ?_; rintro e w4 ⟨rfl, hb4⟩)
            obtain ⟨t1, t2⟩ := T1.out hlt
            go_roundw
            case rel => exact ⟨k, by omega, rfl, by rw [t1, t2]; exact ST.out.below hb4⟩
            case measure => simp [intOf]
          · have hd := less_no (2 * R + bitI x k) d 0 d (hi_small (by omega) d1).symm (lo_small (by omega) d1).symm (by omega) (by omega) (by omega)
            go_wp2_with (first
              | (go_at_call 108; refine (hd _).mono ?_; rintro e w4 ⟨rfl, hb4⟩;
                  have r3 := cb hb4 (by omega) r0;
                  have r4 := cb hb4 (by omega) r1)
              | (go_at_call 107; refine (minus_low (2 * R + bitI x k) d (by omega) (by omega) d1 (by omega) _).mono ?_; rintro e w5 ⟨rfl, hb5⟩;
                  have hz4 := hb4.size;
                  have r5 := cb hb5 (by omega) r3;
                  have r6 := cb hb5 (by omega) r4;
                  have f5 := fb hb5 (by omega) (fb hb4 (by omega) f30);
                  have f6 := fb hb5 (by omega) (fb hb4 (by omega) f31);
                  have q6 := cb hb5 (by omega) (cb hb4 (by omega) q1);
                  have g6 := fb hb5 (by omega) (fb hb4 (by omega) f21)))
            obtain ⟨t1, t2⟩ := T2.out (by omega)
            go_roundw
            case rel => exact ⟨k, by omega, rfl, by rw [t1, t2]; exact over_end ST.out hb4 hb5⟩
            case measure => simp [intOf]
end Go.Proofs.YtdpkigdfhfippaaGreatDoor
