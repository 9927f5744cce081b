/- Parts, joined. -/
import Derived.Test.YtaafhjngnjjcmaaGreatDoorJ12
import Derived.Test.YtaafhjngnjjcmaaGreatDoorJ18
import Derived.Test.YtaafhjngnjjcmaaGreatDoorJ06
import Derived.Test.YtaafhjngnjjcmaaGreatDoorJ19
import Derived.Test.YtaafhjngnjjcmaaGreatDoorProg
import Derived.Shelf.SlSortCmp.Kit1
import Derived.Deep.RegionHeld3
import Derived.Shelf.SlLaysF
/- Weights that come to one: the program's sums, kernels. -/
namespace Go.Proofs.YtaafhjngnjjcmaaGreatDoor
open Go.RowKit


theorem absH_in (x : Int) : 0 ≤ absH x ∧ absH x ≤ 9223372036854775807 := by
  unfold absH holdI; have := absI0 x; split <;> (try split) <;> omega
theorem absH_neg {x : Int} (h : x < 0) : absH x = holdI (-x) := by unfold absH absI; rw [if_pos h]
theorem absH_pos {x : Int} (h : ¬ x < 0) (h1 : x ≤ 9223372036854775807) : absH x = x := by unfold absH absI; rw [if_neg h, holdI_in (by omega) (by omega)]
theorem without_any (x : Int) (h0 : -9223372036854775808 ≤ x) (h1 : x ≤ 9223372036854775807) (w : World) :
    Calls Tryz.prog 114 #[.int .i64 x] w fun e w' => e = .returned (.int .i64 (absH x)) ∧ w = w' := by
  by_cases g : x < 0
  · rw [absH_neg g]
    have CM : ∀ w : World, Calls Tryz.prog 130 #[.int .i64 x, .int .i64 (-1)] w fun e w' => e = .returned (.int .i64 (holdI (-x))) ∧ w = w' := fun w => by
      have := fixmul_any x (-1) h0 h1 (by omega) (by omega) w
      rw [show x * -1 = -x by omega] at this
      exact this
    generalize holdI (-x) = y at *
    go_enter Tryz.func114, Tryz.ntmps114
    go_wp2_with (go_at_call 130; (with_reducible refine (CM _).mono ?_); rintro e w1 ⟨rfl, rfl⟩)
    go_ret
    exact ⟨rfl, rfl⟩
  · rw [absH_pos g h1]
    go_enter Tryz.func114, Tryz.ntmps114
    go_wp2
    go_ret
    exact ⟨rfl, rfl⟩
theorem tsum_any (xs : List Int) (ad : Option Addr) (cap : Nat) (w : World) (hr : RowAt .i64 w ad xs) (hx : All64 xs) (hl : xs.length ≤ 9223372036854775807) :
    Calls Tryz.prog 134 #[.slice ad xs.length cap] w fun e w' => e = .returned (.int .i64 (sumH xs)) ∧ w = w' := by
  have HR := hide hr
  have HX := hide hx
  clear hr hx
  obtain ⟨n, hn⟩ : ∃ n, xs.length = n := ⟨_, rfl⟩
  have HN := hide hn
  rw [hn] at hl ⊢
  clear hn
  go_enter Tryz.func134, Tryz.ntmps134
  go_wp2
  go_loop [3, 8] (fun s i => ∃ k : Nat, k ≤ n ∧ i = .int .i64 (k : Int) ∧ s = .int .i64 (sumH (xs.take k))) (fun _ i => n - (intOf i).toNat)
  case atStart => exact ⟨0, by omega, rfl, rfl⟩
  case round =>
    obtain ⟨k, hk, rfl, rfl⟩ := hrel
    by_cases hlt : k < n
    · obtain ⟨b, off, rfl, hc⟩ := HR.out.get (show k < xs.length by rw [HN.out]; exact hlt)
      obtain ⟨x0, x1⟩ := HX.out k (by rw [HN.out]; exact hlt)
      obtain ⟨s0, s1⟩ := sumH_in (xs.take k)
      have hs : sumH (xs.take (k + 1)) = holdI (sumH (xs.take k) + xs.getD k 0) := by rw [take_step xs (by rw [HN.out]; exact hlt), sumH_snoc]; rfl
      have HS := hide hs
      clear hs
      have CP := fun w => fixadd_any (sumH (xs.take k)) (xs.getD k 0) s0 s1 x0 x1 w
      generalize xs.getD k 0 = x at *
      generalize holdI (sumH (xs.take k) + x) = y at *
      go_wp2_with (go_at_call 112; (with_reducible refine (CP _).mono ?_); rintro e w1 ⟨rfl, rfl⟩)
      go_round
      case rel => exact ⟨k + 1, by omega, by go_num, by rw [HS.out]⟩
      case measure => simp [intOf]; omega
    · obtain rfl : k = n := by omega
      have e : xs.take k = xs := List.take_of_length_le (by rw [HN.out]; exact Nat.le_refl _)
      have HE := hide e
      clear e
      go_wp2
      go_ret
      exact ⟨ret_i64 (by rw [HE.out]), rfl⟩
theorem tsize_any (xs : List Int) (ad : Option Addr) (cap : Nat) (w : World) (hr : RowAt .i64 w ad xs) (hx : All64 xs) (hl : xs.length ≤ 9223372036854775807) :
    Calls Tryz.prog 95 #[.slice ad xs.length cap] w fun e w' => e = .returned (.int .i64 (sizeH xs)) ∧ w = w' := by
  have HR := hide hr
  have HX := hide hx
  clear hr hx
  obtain ⟨n, hn⟩ : ∃ n, xs.length = n := ⟨_, rfl⟩
  have HN := hide hn
  rw [hn] at hl ⊢
  clear hn
  go_enter Tryz.func95, Tryz.ntmps95
  go_wp2
  go_loop [3, 8] (fun s i => ∃ k : Nat, k ≤ n ∧ i = .int .i64 (k : Int) ∧ s = .int .i64 (sizeH (xs.take k))) (fun _ i => n - (intOf i).toNat)
  case atStart => exact ⟨0, by omega, rfl, rfl⟩
  case round =>
    obtain ⟨k, hk, rfl, rfl⟩ := hrel
    by_cases hlt : k < n
    · obtain ⟨b, off, rfl, hc⟩ := HR.out.get (show k < xs.length by rw [HN.out]; exact hlt)
      obtain ⟨x0, x1⟩ := HX.out k (by rw [HN.out]; exact hlt)
      obtain ⟨s0, s1⟩ := sizeH_in (xs.take k)
      have hs : sizeH (xs.take (k + 1)) = holdI (sizeH (xs.take k) + absH (xs.getD k 0)) := by rw [take_step xs (by rw [HN.out]; exact hlt), sizeH_snoc]; rfl
      have HS := hide hs
      clear hs
      have CW := fun w => without_any (xs.getD k 0) x0 x1 w
      obtain ⟨a0, a1⟩ := absH_in (xs.getD k 0)
      have CP := fun w => fixadd_any (sizeH (xs.take k)) (absH (xs.getD k 0)) (by omega) s1 (by omega) a1 w
      generalize xs.getD k 0 = x at *
      generalize absH x = a at *
      generalize holdI (sizeH (xs.take k) + a) = y at *
      go_wp2_with (first
        | (go_at_call 112; (with_reducible refine (CP _).mono ?_); rintro e w1 ⟨rfl, rfl⟩)
        | (go_at_call 114; (with_reducible refine (CW _).mono ?_); rintro e w1 ⟨rfl, rfl⟩))
      go_round
      case rel => exact ⟨k + 1, by omega, by go_num, by rw [HS.out]⟩
      case measure => simp [intOf]; omega
    · obtain rfl : k = n := by omega
      have e : xs.take k = xs := List.take_of_length_le (by rw [HN.out]; exact Nat.le_refl _)
      have HE := hide e
      clear e
      go_wp2
      go_ret
      exact ⟨ret_i64 (by rw [HE.out]), rfl⟩
theorem abs_over {x : Int} : smallW x ↔ ¬ 1099511627776 < absH x := by
  unfold smallW absH absI
  by_cases g : x < 0
  · rw [if_pos g]
    by_cases h : -x ≤ 9223372036854775807
    · rw [holdI_in (by omega) (by omega)]; omega
    · rw [holdI_hi (by omega)]; omega
  · rw [if_neg g]
    by_cases h : x ≤ 9223372036854775807
    · rw [holdI_in (by omega) (by omega)]; omega
    · rw [holdI_hi (by omega)]; omega
theorem bounded_any (xs : List Int) (ad : Option Addr) (cap : Nat) (w : World) (hr : RowAt .i64 w ad xs) (hx : All64 xs) (hl : xs.length ≤ 9223372036854775807) (v : Bool) (hv : badB xs = !v) :
    Calls Tryz.prog 133 #[.slice ad xs.length cap] w fun e w' => e = .returned (.bool v) ∧ w = w' := by
  have B := badB_iff xs
  rw [hv] at B
  have HB1 := hide (show (¬ (xs.length < 1 ∨ 1048576 < xs.length)) → (∀ x ∈ xs, smallW x) → v = true from fun h0 h => by
    cases v with
    | true => rfl
    | false =>
      rcases B.1 rfl with h1 | h1 | h1
      · exact absurd (Or.inl h1) h0
      · exact absurd (Or.inr h1) h0
      · exact absurd h h1)
  have HB2 := hide (show (xs.length < 1 ∨ 1048576 < xs.length ∨ ¬ ∀ x ∈ xs, smallW x) → v = false from fun h => by
    have := B.2 h
    cases v with
    | true => cases this
    | false => rfl)
  clear hv B
  have HR := hide hr
  have HX := hide hx
  clear hr hx
  obtain ⟨n, hn⟩ : ∃ n, xs.length = n := ⟨_, rfl⟩
  have HN := hide hn
  rw [hn] at hl ⊢
  clear hn
  by_cases g0 : n = 0
  · obtain rfl := HB2.out (Or.inl (by rw [HN.out]; omega))
    subst g0
    clear HN HB1 HB2
    go_enter Tryz.func133, Tryz.ntmps133
    go_wp2
    go_ret
    exact ⟨rfl, rfl⟩
  by_cases g1 : 1048576 < n
  · obtain rfl := HB2.out (Or.inr (Or.inl (by rw [HN.out]; omega)))
    have b0 : ((n : Int) == 0) = false := beq_eq_false_iff_ne.2 (by omega)
    have b1 : decide ((1048576 : Int) < (n : Int)) = true := decide_eq_true (by omega)
    clear HB1 HB2
    go_enter Tryz.func133, Tryz.ntmps133
    go_wp2
    go_ret
    exact ⟨rfl, rfl⟩
  have HV1 := hide (HB1.out (by rw [HN.out]; omega))
  have b0 : ((n : Int) == 0) = false := beq_eq_false_iff_ne.2 (by omega)
  have b1 : decide ((1048576 : Int) < (n : Int)) = false := decide_eq_false (by omega)
  clear g0 HB1
  go_enter Tryz.func133, Tryz.ntmps133
  go_wp2
  clear b0 b1
  go_loop [15] (fun i => ∃ k : Nat, k ≤ n ∧ i = .int .i64 (k : Int) ∧ Hid (∀ j, j < k → smallW (xs.getD j 0))) (fun i => n - (intOf i).toNat)
  case atStart => exact ⟨0, by omega, rfl, hide (fun j hj => absurd hj (Nat.not_lt_zero _))⟩
  case round =>
    obtain ⟨k, hk, rfl, HJ⟩ := hrel
    by_cases hlt : k < n
    · obtain ⟨b, off, rfl, hc⟩ := HR.out.get (show k < xs.length by rw [HN.out]; exact hlt)
      obtain ⟨x0, x1⟩ := HX.out k (by rw [HN.out]; exact hlt)
      have CW := fun w => without_any (xs.getD k 0) x0 x1 w
      obtain ⟨a0, a1⟩ := absH_in (xs.getD k 0)
      by_cases g : 1099511627776 < absH (xs.getD k 0)
      · obtain rfl := HB2.out (Or.inr (Or.inr (fun h => by
          have := mem_getD h (show k < xs.length by rw [HN.out]; exact hlt)
          exact abs_over.1 this g)))
        generalize xs.getD k 0 = x at hc CW x0 x1 a0 a1 g
        generalize absH x = a at *
        go_wp2_with (go_at_call 114; (with_reducible refine (CW _).mono ?_); rintro e w1 ⟨rfl, rfl⟩)
        go_ret
        exact ⟨rfl, rfl⟩
      · have HS := hide (abs_over.2 g)
        have HK := hide (show ∀ j, j < k + 1 → smallW (xs.getD j 0) from fun j hj => by
          by_cases e : j = k
          · subst e; exact HS.out
          · exact HJ.out j (by omega))
        clear HS
        generalize xs.getD k 0 = x at hc CW x0 x1 a0 a1 g
        generalize absH x = a at *
        go_wp2_with (go_at_call 114; (with_reducible refine (CW _).mono ?_); rintro e w1 ⟨rfl, rfl⟩)
        go_round
        case rel => exact ⟨k + 1, by omega, by go_num, HK⟩
        case measure => simp [intOf]; omega
    · obtain rfl : k = n := by omega
      obtain rfl := HV1.out (getD_mem (fun j hj => HJ.out j (by rw [HN.out] at hj; exact hj)))
      go_wp2
      go_ret
      exact ⟨rfl, rfl⟩
end Go.Proofs.YtaafhjngnjjcmaaGreatDoor

/- Weights that come to one: how the program compares two places. -/
namespace Go.Proofs.YtaafhjngnjjcmaaGreatDoor
open Go.RowKit


theorem nan64 (x : Int) (w : World) : Calls Tryz.prog 183 #[.int .i64 x] w fun e w' => e = .returned (.bool false) ∧ w = w' := by
  go_enter Tryz.func183, Tryz.ntmps183
  go_wp2
  go_ret
  exact ⟨by simp, rfl⟩
theorem nanI (x : Int) (w : World) : Calls Tryz.prog 184 #[.int .i64 x] w fun e w' => e = .returned (.bool false) ∧ w = w' := by
  go_enter Tryz.func184, Tryz.ntmps184
  go_wp2
  go_ret
  exact ⟨by simp, rfl⟩
theorem cmp64 (x y : Int) (w : World) : Calls Tryz.prog 161 #[.int .i64 x, .int .i64 y] w fun e w' => e = .returned (.int .i64 (Lib.compareInt x y)) ∧ w = w' := by
  unfold Lib.compareInt
  by_cases h : x < y
  · rw [if_pos h]
    go_enter Tryz.func161, Tryz.ntmps161
    go_wp2_with (go_at_call 183; (with_reducible refine (nan64 _ _).mono ?_); rintro e w1 ⟨rfl, rfl⟩)
    go_ret
    exact ⟨rfl, rfl⟩
  · rw [if_neg h]
    by_cases g : x > y
    · rw [if_pos g]
      go_enter Tryz.func161, Tryz.ntmps161
      go_wp2_with (go_at_call 183; (with_reducible refine (nan64 _ _).mono ?_); rintro e w1 ⟨rfl, rfl⟩)
      go_ret
      exact ⟨rfl, rfl⟩
    · rw [if_neg g]
      go_enter Tryz.func161, Tryz.ntmps161
      go_wp2_with (go_at_call 183; (with_reducible refine (nan64 _ _).mono ?_); rintro e w1 ⟨rfl, rfl⟩)
      go_ret
      exact ⟨rfl, rfl⟩
theorem cmpI (x y : Int) (w : World) : Calls Tryz.prog 162 #[.int .i64 x, .int .i64 y] w fun e w' => e = .returned (.int .i64 (Lib.compareInt x y)) ∧ w = w' := by
  unfold Lib.compareInt
  by_cases h : x < y
  · rw [if_pos h]
    go_enter Tryz.func162, Tryz.ntmps162
    go_wp2_with (go_at_call 184; (with_reducible refine (nanI _ _).mono ?_); rintro e w1 ⟨rfl, rfl⟩)
    go_ret
    exact ⟨rfl, rfl⟩
  · rw [if_neg h]
    by_cases g : x > y
    · rw [if_pos g]
      go_enter Tryz.func162, Tryz.ntmps162
      go_wp2_with (go_at_call 184; (with_reducible refine (nanI _ _).mono ?_); rintro e w1 ⟨rfl, rfl⟩)
      go_ret
      exact ⟨rfl, rfl⟩
    · rw [if_neg g]
      go_enter Tryz.func162, Tryz.ntmps162
      go_wp2_with (go_at_call 184; (with_reducible refine (nanI _ _).mono ?_); rintro e w1 ⟨rfl, rfl⟩)
      go_ret
      exact ⟨rfl, rfl⟩
theorem or_two (a b r : Int) (hr : orI a b = r) (k o : Nat) (w : World) (h0 : w.cell? ⟨k, o, none⟩ = some (.int .i64 a)) (h1 : w.cell? ⟨k, o + 1, none⟩ = some (.int .i64 b)) :
    Calls Tryz.prog 160 #[.slice (some ⟨k, o, none⟩) 2 2] w fun e w' => e = .returned (.int .i64 r) ∧ w = w' := by
  unfold orI at hr
  have HR := hide hr
  clear hr
  go_enter Tryz.func160, Tryz.ntmps160
  go_wp2
  go_loop [8] (fun i => ∃ j : Nat, j ≤ 2 ∧ i = .int .i64 (j : Int) ∧ (0 < j → a = 0) ∧ (1 < j → b = 0)) (fun i => 2 - (intOf i).toNat)
  case atStart => exact ⟨0, by omega, rfl, by omega, by omega⟩
  case round =>
    obtain ⟨j, hj, rfl, p0, p1⟩ := hrel
    by_cases j0 : j = 0
    · subst j0
      by_cases ha : a = 0
      · subst ha
        clear p0 p1
        go_wp2
        go_round
        case rel => exact ⟨1, by omega, by go_num, by simp, by simp⟩
        case measure => simp [intOf]
      · have e := HR.out
        rw [if_neg ha] at e
        subst e
        have b0 : (a == 0) = false := beq_eq_false_iff_ne.2 ha
        clear p0 p1
        go_wp2
        go_ret
        exact ⟨rfl, rfl⟩
    by_cases j1 : j = 1
    · subst j1
      obtain rfl := p0 (by omega)
      clear p0 p1
      have e := HR.out
      rw [if_pos rfl] at e
      subst e
      by_cases hb : b = 0
      · subst hb
        go_wp2
        go_round
        case rel => exact ⟨2, by omega, by go_num, by simp, by simp⟩
        case measure => simp [intOf]
      · have b0 : (b == 0) = false := beq_eq_false_iff_ne.2 hb
        go_wp2
        go_ret
        exact ⟨rfl, rfl⟩
    · obtain rfl : j = 2 := by omega
      obtain rfl := p0 (by omega)
      obtain rfl := p1 (by omega)
      have e := HR.out
      rw [if_pos rfl] at e
      subst e
      clear p0 p1
      go_wp2
      go_ret
      exact ⟨rfl, rfl⟩
set_option maxHeartbeats 4000000 in
set_option maxRecDepth 1000000 in
theorem closure_any (rs : List Int) (n : Nat) (hn : rs.length = n) (x y : Fin n) (b1 : Nat) (ad : Option Addr) (cap : Nat) (W : World) (hc : W.cell? ⟨b1, 0, none⟩ = some (.slice ad n cap)) (hr : RowAt .i64 W ad rs) :
    Calls Tryz.prog 159 #[.int .i64 (x.val : Int), .int .i64 (y.val : Int), .pointer (some ⟨b1, 0, none⟩)] W fun e w' => e = .returned (.int .i64 (cfR rs n x y)) ∧ ∃ q os', w' = Sort.grow (W.drewN q) os' := by
  obtain ⟨x, hx⟩ := x
  obtain ⟨y, hy⟩ := y
  obtain ⟨b, off, rfl, c1⟩ := hr.get (show x < rs.length by omega)
  have c2 := hr.at (show y < rs.length by omega)
  unfold cfR
  show Calls _ _ #[.int .i64 (x : Int), .int .i64 (y : Int), _] W _
  simp only
  have C1 := fun w => cmp64 (rs.getD y 0) (rs.getD x 0) w
  have C2 := fun w => cmpI (x : Int) (y : Int) w
  generalize rs.getD y 0 = ry at *
  generalize rs.getD x 0 = rx at *
  generalize Lib.compareInt ry rx = p at *
  generalize Lib.compareInt (x : Int) (y : Int) = q at *
  obtain ⟨r, hr2⟩ : ∃ r, orI p q = r := ⟨_, rfl⟩
  rw [hr2]
  have CO := fun k w => or_two p q r hr2 k 0 w
  have HO := hide hr2
  clear hr hn hr2
  have z1 := World.new_ne W _ hc
  have z2 := World.new_ne W _ c1
  have z3 := World.new_ne W _ c2
  go_enter Tryz.func159, Tryz.ntmps159
  go_wp2_with fail
  go_region_held3 (fun w' => w'.cell? ⟨b1, 0, none⟩ = some (.slice (some ⟨b, off, none⟩) n cap) ∧ w'.cell? ⟨b, off + x, none⟩ = some (.int .i64 rx) ∧ w'.cell? ⟨b, off + y, none⟩ = some (.int .i64 ry)) (go_keep)
    (first
      | (go_at_call 161; (with_reducible refine (C1 _).mono ?_); rintro e w1 ⟨rfl, rfl⟩)
      | (go_at_call 162; (with_reducible refine (C2 _).mono ?_); rintro e w1 ⟨rfl, rfl⟩)
      | (go_at_call 160; (with_reducible refine (CO _ _ (by simp) (by simp)).mono ?_); rintro e w1 ⟨rfl, rfl⟩))
  go_wp2
  go_ret
  exact ⟨rfl, 1, #[_], by rw [Sort.alloc_eq_grow]; rfl⟩
theorem sort_cell {α : Type} [Inhabited α] (enc : α → Value) (w : World) (blk off m : Nat) (dk : Array α) (os : Array Obj) {b o : Nat} {v : Value} (h : w.cell? ⟨b, o, none⟩ = some v) (hne : b ≠ blk) : (sortWorld enc w blk off m dk os).cell? ⟨b, o, none⟩ = some v := by
  unfold sortWorld
  rw [Sort.cell?_grow _ _ _ (by simp only [Sort.size_putRow, Sort.heap_ahead]; exact cell_ltL h), Sort.cell?_putRow_other _ _ _ _ _ _ (Or.inl hne), Sort.cell?_ahead]
  exact h
theorem below_sort {α : Type} [Inhabited α] {enc : α → Value} {B : Nat} {w0 w : World} {g n : Nat} {d : Array α} {os : Array Obj} (h : Below B w0 w) (hg : B ≤ g) (hs : g < w.heap.size) : Below B w0 (sortWorld enc w g 0 n d os) := by
  refine Below.trans h ⟨rfl, rfl, rfl, by unfold sortWorld; simp, fun k hk => ?_⟩
  unfold sortWorld Sort.grow
  show ((Sort.putRow enc (Sort.ahead w n) g 0 d).heap ++ os)[k]? = w.heap[k]?
  rw [Array.getElem?_append_left (by rw [Sort.size_putRow, Sort.heap_ahead]; omega)]
  simp [Sort.putRow, Sort.mapBlock, Sort.ahead, Array.getElem?_modify, show g ≠ k by omega]
end Go.Proofs.YtaafhjngnjjcmaaGreatDoor

/- Weights that come to one: the program's kernels. -/
namespace Go.Proofs.YtaafhjngnjjcmaaGreatDoor
open Go.RowKit


theorem user_bad (xs : List Int) (ad : Option Addr) (cap : Nat) (w : World) (hr : RowAt .i64 w ad xs) (hx : All64 xs) (hl : xs.length ≤ 9223372036854775807) (h : ¬ UserP xs) :
    Calls Tryz.prog 120 #[.slice ad xs.length cap] w fun e w' => e = .returned (.tuple #[.slice none 0 0, .int .i64 7]) ∧ Below w.heap.size w w' := by
  have CS := fun w hr => tsize_any xs ad cap w hr hx hl
  obtain ⟨s0, s1⟩ := sizeH_in xs
  unfold UserP at h
  have HR := hide hr
  clear hr hx
  generalize sizeH xs = s at *
  generalize xs.length = n at *
  by_cases a1 : n % 2 = 1
  · have b1 : ((n : Int) % 2 == 0) = false := beq_eq_false_iff_ne.2 (by omega)
    by_cases a2 : n ≤ 1024
    · have b3 : decide ((1024 : Int) < (n : Int)) = false := decide_eq_false (by omega)
      by_cases a3 : 1 ≤ s
      · have a4 : 1048576 < s := by omega
        have b2 : (s == 0) = false := beq_eq_false_iff_ne.2 (by omega)
        clear h a1
        go_enter Tryz.func120, Tryz.ntmps120
        go_wp2_with (go_at_call 95; (with_reducible refine (CS _ HR.out).mono ?_); rintro e w1 ⟨rfl, rfl⟩)
        exact bodyPost_ret (v := .tuple #[.slice none 0 0, .int .i64 7]) (by simp [results, Tryz.results120, go_sem]) rfl ⟨rfl, Below.refl _ _⟩
      · obtain rfl : s = 0 := by omega
        clear h a1
        go_enter Tryz.func120, Tryz.ntmps120
        go_wp2_with (go_at_call 95; (with_reducible refine (CS _ HR.out).mono ?_); rintro e w1 ⟨rfl, rfl⟩)
        exact bodyPost_ret (v := .tuple #[.slice none 0 0, .int .i64 7]) (by simp [results, Tryz.results120, go_sem]) rfl ⟨rfl, Below.refl _ _⟩
    · have b3 : (1024 : Int) < (n : Int) := by omega
      clear h a1
      go_enter Tryz.func120, Tryz.ntmps120
      go_wp2_with (go_at_call 95; (with_reducible refine (CS _ HR.out).mono ?_); rintro e w1 ⟨rfl, rfl⟩)
      exact bodyPost_ret (v := .tuple #[.slice none 0 0, .int .i64 7]) (by simp [results, Tryz.results120, go_sem]) rfl ⟨rfl, Below.refl _ _⟩
  · have b1 : ((n : Int) % 2 == 0) = true := beq_iff_eq.2 (by omega)
    clear h a1
    go_enter Tryz.func120, Tryz.ntmps120
    go_wp2_with (go_at_call 95; (with_reducible refine (CS _ HR.out).mono ?_); rintro e w1 ⟨rfl, rfl⟩)
    exact bodyPost_ret (v := .tuple #[.slice none 0 0, .int .i64 7]) (by simp [results, Tryz.results120, go_sem]) rfl ⟨rfl, Below.refl _ _⟩
set_option maxHeartbeats 4000000 in
set_option maxRecDepth 1000000 in
theorem user_ok (xs : List Int) (ad : Option Addr) (cap : Nat) (w : World) (hr : RowAt .i64 w ad xs) (hx : All64 xs) (h : UserP xs) :
    Calls Tryz.prog 120 #[.slice ad xs.length cap] w fun e w' => ∃ v, e = .returned (.tuple #[v, .int .i64 0]) ∧ OwnI .i64 2 w' w.heap.size v (userR xs) ∧ Below w.heap.size w w' := by
  obtain ⟨p0, p1, s0, s1⟩ := h
  have CS := fun w hr => tsize_any xs ad cap w hr hx (by omega)
  obtain ⟨i0, hi, hz0, hz1, hz2⟩ := info_parts infoI64Q
  have HR := hide hr
  have HX := hide hx
  have HE := hide (show userR xs = xs.map fun x => divF (x * 1073741824) (sizeH xs) from rfl)
  clear hr hx
  obtain ⟨n, hn⟩ : ∃ n, xs.length = n := ⟨_, rfl⟩
  have HN := hide hn
  rw [hn] at p0 p1 CS ⊢
  generalize sizeH xs = s at *
  generalize userR xs = us at *
  have b1 : ((n : Int) % 2 == 0) = false := beq_eq_false_iff_ne.2 (by omega)
  have b2 : (s == 0) = false := beq_eq_false_iff_ne.2 (by omega)
  have b3 : decide ((1024 : Int) < (n : Int)) = false := decide_eq_false (by omega)
  have n1 : n ≤ 1024 := p1
  clear hn p0 p1
  go_enter Tryz.func120, Tryz.ntmps120
  go_wp2_with (first
    | (go_at_call 95; (with_reducible refine (CS _ HR.out).mono ?_); rintro e w1 ⟨rfl, rfl⟩)
    | (at_make; refine wpList_make_full _ rfl _ _ 47 rfl w.heap.size 2 i0 (.int .i64 0) 1 Tryz.underlying47 hi hz0 hz1 .i64 .i64 (n : Int) (n : Int) n rfl rfl rfl rfl (by rw [hz2]; omega) (by unfold maxLen; omega) (Nat.le_refl _) ?_; intro w2 hown hgrow))
  have own0 : OwnI .i64 2 w2 w.heap.size (.slice (some ⟨w.heap.size, 0, none⟩) n n) (fillZ (fun x => divF (x * 1073741824) s) xs n 0) := by rw [fillZ_zero]; exact OwnI.made hown
  have B2 := below_made (Below.refl _ w) hgrow
  clear hown hgrow CS b1 b2 b3
  go_loopw [32] (fun i wr => ∃ j : Nat, j ≤ n ∧ i = .int .i64 (j : Int) ∧ OwnI .i64 2 wr w.heap.size (.slice (some ⟨w.heap.size, 0, none⟩) n n) (fillZ (fun x => divF (x * 1073741824) s) xs n j) ∧ Below w.heap.size w wr) (fun i _ => n - (intOf i).toNat)
  case atStart => exact ⟨0, by omega, rfl, own0, B2⟩
  case round =>
    clear own0 B2
    obtain ⟨j, hj, rfl, ho, hb⟩ := hrel
    have HO := hide ho
    have HB := hide hb
    clear ho hb
    by_cases hlt : j < n
    · obtain ⟨b, off, rfl, hc⟩ := (HR.out.below HB.out).get (show j < xs.length by rw [HN.out]; exact hlt)
      obtain ⟨x0, x1⟩ := HX.out j (by rw [HN.out]; exact hlt)
      have CM := fun w => muldiv_to (xs.getD j 0) 1073741824 s _ rfl x0 x1 (by omega) (by omega) (by omega) (by omega) w
      have HZ := hide (fillZ_set (F := fun x => divF (x * 1073741824) s) HN.out hlt)
      have HL := hide (fillZ_len (F := fun x => divF (x * 1073741824) s) (j := j) HN.out)
      generalize fillZ (fun x => divF (x * 1073741824) s) xs n j = L1 at *
      generalize xs.getD j 0 = x at *
      generalize divF (x * 1073741824) s = q at *
      go_wp2_with (go_at_call 139; (with_reducible refine (CM _).mono ?_); rintro e w3 ⟨rfl, b3⟩; have fz := (HO.out.below b3).frozenAt HL.out j; have cl := (HO.out.below b3).cellAt HL.out hlt)
      go_roundw
      case rel => exact ⟨j + 1, by omega, by go_num, by rw [← HZ.out]; exact (HO.out.below b3).stored HL.out j q, bs (bt HB.out b3) (Nat.le_refl _) _⟩
      case measure => simp [intOf]; omega
    · obtain rfl : j = n := by omega
      have O2 := HO.out
      rw [fillZ_all HN.out, ← HE.out] at O2
      have HO2 := hide O2
      clear O2 HO
      go_wp2
      exact bodyPost_ret (v := .tuple #[_, .int .i64 0]) (by simp [results, Tryz.results120, go_sem]) rfl ⟨_, rfl, HO2.out, HB.out⟩
theorem gaussian_bad (s : Int) (h : s < 1 ∨ 4194304 < s) (w : World) :
    Calls Tryz.prog 118 #[.int .i64 s] w fun e w' => e = .returned (.tuple #[.slice none 0 0, .int .i64 7]) ∧ Below w.heap.size w w' := by
  rcases h with h | h
  · go_enter Tryz.func118, Tryz.ntmps118
    go_wp2
    exact bodyPost_ret (v := .tuple #[.slice none 0 0, .int .i64 7]) (by simp [results, Tryz.results118, go_sem]) rfl ⟨rfl, Below.refl _ _⟩
  · have h2 : decide (s < 1) = false := decide_eq_false (by omega)
    go_enter Tryz.func118, Tryz.ntmps118
    go_wp2
    exact bodyPost_ret (v := .tuple #[.slice none 0 0, .int .i64 7]) (by simp [results, Tryz.results118, go_sem]) rfl ⟨rfl, Below.refl _ _⟩
/-- The radius, as the program finds it. -/
theorem rad_floor {s r : Int} (s0 : 1 ≤ s) (s1 : s ≤ 4194304) (hr : radG s = r) : floorF (-3 * s) 65536 = -r := by
  rw [floorF_of (by omega), ← hr]
  unfold floorQ radG
  rw [if_neg (by omega), holdI_in (by omega) (by omega)]
  omega
set_option maxHeartbeats 4000000 in
set_option maxRecDepth 1000000 in
theorem gaussian_ok (s : Int) (s0 : 1 ≤ s) (s1 : s ≤ 4194304) (w : World) :
    Calls Tryz.prog 118 #[.int .i64 s] w fun e w' => ∃ v, e = .returned (.tuple #[v, .int .i64 0]) ∧ OwnI .i64 2 w' w.heap.size v (gaussR s) ∧ Below w.heap.size w w' := by
  obtain ⟨i0, hi, hz0, hz1, hz2⟩ := info_parts infoI64Q
  obtain ⟨r, hr⟩ : ∃ r : Nat, radG s = (r : Int) := ⟨(radG s).toNat, by unfold radG; omega⟩
  have hf := rad_floor s0 s1 hr
  have r1 : r ≤ 192 := by unfold radG at hr; omega
  have CF := fun w => fixfloor_any (-3 * s) 65536 (by omega) (by omega) (by omega) (by omega) w
  rw [hf] at CF
  have HG := hide (show gaussR s = gaussTo r s (2 * r + 1) by unfold gaussR; rw [hr, show ((r : Int)).toNat = r by omega])
  generalize gaussR s = gs at *
  clear hr hf
  have t0 : -3 * s ≤ 0 := by omega
  have t1 : -12582912 ≤ -3 * s := by omega
  go_enter Tryz.func118, Tryz.ntmps118
  obtain ⟨n, hn⟩ : ∃ n, 2 * r + 1 = n := ⟨_, rfl⟩
  have hn' : 2 * (r : Int) + 1 = (n : Int) := by omega
  have nn : - -(r : Int) = (r : Int) := by omega
  have n1 : n ≤ 385 := by omega
  go_wp2_with (first
    | (go_at_call 135; (with_reducible refine (CF _).mono ?_); rintro e w1 ⟨rfl, rfl⟩)
    | (at_make; refine wpList_make_full _ rfl _ _ 47 rfl w.heap.size 2 i0 (.int .i64 0) 1 Tryz.underlying47 hi hz0 hz1 .i64 .i64 (n : Int) (n : Int) n rfl rfl rfl rfl (by rw [hz2]; omega) (by unfold maxLen; omega) (Nat.le_refl _) ?_; intro w2 hown hgrow))
  have own0 : OwnI .i64 2 w2 w.heap.size (.slice (some ⟨w.heap.size, 0, none⟩) n n) (padZ (gaussTo r s 0) n) := by
    rw [show gaussTo r s 0 = [] from rfl, padZ_nil]; exact OwnI.made hown
  have B2 := below_made (Below.refl _ w) hgrow
  have HNN := hide hn
  clear hown hgrow CF hn hn' nn t0 t1
  go_loopw [23] (fun i wr => ∃ j : Nat, j ≤ n ∧ i = .int .i64 (j : Int) ∧ OwnI .i64 2 wr w.heap.size (.slice (some ⟨w.heap.size, 0, none⟩) n n) (padZ (gaussTo r s j) n) ∧ Below w.heap.size w wr) (fun i _ => n - (intOf i).toNat)
  case atStart => exact ⟨0, by omega, rfl, own0, B2⟩
  case round =>
    clear own0 B2
    obtain ⟨j, hj, rfl, ho, hb⟩ := hrel
    have HO := hide ho
    have HB := hide hb
    clear ho hb
    by_cases hlt : j < n
    · have CG := fun w => gauss_any ((j : Int) - r) s (by omega) (by omega) (by omega) (by omega) w
      have HZ := hide (padZ_set (gaussTo_len r s j) hlt (gaussF ((j : Int) - r) s))
      have HS := hide (gaussTo_snoc r s j)
      have HL := hide (padZ_len (show (gaussTo r s j).length ≤ n by rw [gaussTo_len]; exact hj))
      generalize padZ (gaussTo r s j) n = L1 at *
      generalize gaussF ((j : Int) - r) s = q at *
      go_wp2_with (go_at_call 137; (with_reducible refine (CG _).mono ?_); rintro e w3 ⟨rfl, b3⟩; have fz := (HO.out.below b3).frozenAt HL.out j; have cl := (HO.out.below b3).cellAt HL.out hlt)
      go_roundw
      case rel => exact ⟨j + 1, by omega, by go_num, by rw [HS.out, ← HZ.out]; exact (HO.out.below b3).stored HL.out j q, bs (bt HB.out b3) (Nat.le_refl _) _⟩
      case measure => simp [intOf]; omega
    · obtain rfl : j = n := by omega
      have O2 := HO.out
      rw [padZ_full (gaussTo_len _ _ _)] at O2
      have EJ := HG.out
      rw [HNN.out] at EJ
      rw [← EJ] at O2
      have HO2 := hide O2
      clear O2 HO EJ
      go_wp2
      exact bodyPost_ret (v := .tuple #[_, .int .i64 0]) (by simp [results, Tryz.results118, go_sem]) rfl ⟨_, rfl, HO2.out, HB.out⟩
end Go.Proofs.YtaafhjngnjjcmaaGreatDoor

/- The library's slices.SortFunc over numbers, by the shelf's contract, laid here. -/
namespace Go.Proofs.YtaafhjngnjjcmaaGreatDoor


def sortL_ren : Go.Shelf.Ren := ⟨fun | 6 => 158 | 15 => 182 | 14 => 181 | 28 => 201 | 29 => 202 | 20 => 193 | 21 => 194 | 22 => 195 | 23 => 196 | 24 => 197 | 25 => 198 | 26 => 199 | 27 => 200 | 46 => 204 | 47 => 205 | 48 => 206 | 49 => 207 | 50 => 208 | 57 => 209 | n => n, fun | 22 => 181 | 24 => 3 | 25 => 193 | 3 => 3 | 39 => 139 | 0 => 0 | 53 => 213 | 55 => 103 | 4 => 4 | 46 => 219 | 45 => 218 | 50 => 223 | 5 => 5 | 9 => 9 | 66 => 229 | 70 => 233 | 76 => 235 | 77 => 116 | n => n, fun | n => n⟩
theorem sortL : Go.Proofs.SlLaysF.n6 Tryz.prog sortL_ren := {
  mixed := by kernel_rfl
  f6 := ⟨Tryz.f158.name, by decide, Tryz.func158.trans (congrArg some (by kernel_rfl))⟩
  f14 := ⟨Tryz.f181.name, by decide, Tryz.func181.trans (congrArg some (by kernel_rfl))⟩
  f15 := Tryz.func182.trans (congrArg some (by kernel_rfl))
  f20 := ⟨Tryz.f193.name, by decide, Tryz.func193.trans (congrArg some (by kernel_rfl))⟩
  f21 := ⟨Tryz.f194.name, by decide, Tryz.func194.trans (congrArg some (by kernel_rfl))⟩
  f22 := ⟨Tryz.f195.name, by decide, Tryz.func195.trans (congrArg some (by kernel_rfl))⟩
  f23 := ⟨Tryz.f196.name, by decide, Tryz.func196.trans (congrArg some (by kernel_rfl))⟩
  f24 := ⟨Tryz.f197.name, by decide, Tryz.func197.trans (congrArg some (by kernel_rfl))⟩
  f25 := ⟨Tryz.f198.name, by decide, Tryz.func198.trans (congrArg some (by kernel_rfl))⟩
  f26 := ⟨Tryz.f199.name, by decide, Tryz.func199.trans (congrArg some (by kernel_rfl))⟩
  f27 := ⟨Tryz.f200.name, by decide, Tryz.func200.trans (congrArg some (by kernel_rfl))⟩
  f28 := Tryz.func201.trans (congrArg some (by kernel_rfl))
  f29 := Tryz.func202.trans (congrArg some (by kernel_rfl))
  f46 := ⟨Tryz.f204.name, by decide, Tryz.func204.trans (congrArg some (by kernel_rfl))⟩
  f47 := Tryz.func205.trans (congrArg some (by kernel_rfl))
  f48 := Tryz.func206.trans (congrArg some (by kernel_rfl))
  f49 := ⟨Tryz.f207.name, by decide, Tryz.func207.trans (congrArg some (by kernel_rfl))⟩
  f50 := ⟨Tryz.f208.name, by decide, Tryz.func208.trans (congrArg some (by kernel_rfl))⟩
  f57 := ⟨Tryz.f209.name, by decide, Tryz.func209.trans (congrArg some (by kernel_rfl))⟩
  t0 := Tryz.underlying0
  a0 := Tryz.isAgg0
  z0 := Tryz.sizeOf0
  v0 := Tryz.zeroValue0
  t3 := Tryz.underlying3
  a3 := Tryz.isAgg3
  z3 := Tryz.sizeOf3
  v3 := Tryz.zeroValue3
  t4 := Tryz.underlying4
  a4 := Tryz.isAgg4
  z4 := Tryz.sizeOf4
  v4 := Tryz.zeroValue4
  t5 := Tryz.underlying5
  a5 := Tryz.isAgg5
  z5 := Tryz.sizeOf5
  v5 := Tryz.zeroValue5
  t9 := Tryz.underlying9
  a9 := Tryz.isAgg9
  z9 := Tryz.sizeOf9
  v9 := Tryz.zeroValue9
  t22 := Tryz.underlying181
  a22 := Tryz.isAgg181
  z22 := Tryz.sizeOf181
  v22 := Tryz.zeroValue181
  a24 := Tryz.isAgg3
  z24 := Tryz.sizeOf3
  t25 := Tryz.underlying193
  a25 := Tryz.isAgg193
  z25 := Tryz.sizeOf193
  v25 := Tryz.zeroValue193
  t39 := Tryz.underlying139
  a39 := Tryz.isAgg139
  z39 := Tryz.sizeOf139
  v39 := Tryz.zeroValue139
  t45 := Tryz.underlying218
  a45 := Tryz.isAgg218
  z45 := Tryz.sizeOf218
  v45 := Tryz.zeroValue218
  t46 := Tryz.underlying219
  a46 := Tryz.isAgg219
  z46 := Tryz.sizeOf219
  v46 := Tryz.zeroValue219
  t50 := Tryz.underlying223
  a50 := Tryz.isAgg223
  z50 := Tryz.sizeOf223
  v50 := Tryz.zeroValue223
  t53 := Tryz.underlying213
  a53 := Tryz.isAgg213
  z53 := Tryz.sizeOf213
  v53 := Tryz.zeroValue213
  t55 := Tryz.underlying103
  a55 := Tryz.isAgg103
  z55 := Tryz.sizeOf103
  v55 := Tryz.zeroValue103
  t66 := Tryz.underlying229
  a66 := Tryz.isAgg229
  z66 := Tryz.sizeOf229
  v66 := Tryz.zeroValue229
  t70 := Tryz.underlying233
  a70 := Tryz.isAgg233
  z70 := Tryz.sizeOf233
  v70 := Tryz.zeroValue233
  t76 := Tryz.underlying235
  a76 := Tryz.isAgg235
  z76 := Tryz.sizeOf235
  v76 := Tryz.zeroValue235
  t77 := Tryz.underlying116
  a77 := Tryz.isAgg116
  z77 := Tryz.sizeOf116
  v77 := Tryz.zeroValue116 }
end Go.Proofs.YtaafhjngnjjcmaaGreatDoor
