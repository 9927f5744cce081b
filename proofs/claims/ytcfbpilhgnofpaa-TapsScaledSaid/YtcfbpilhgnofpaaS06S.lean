/- Weights that come to one: how the program compares two places. -/
import Derived.Test.YtcfbpilhgnofpaaS06P
import Derived.Test.YtcfbpilhgnofpaaS06Q
import Derived.Shelf.SlSortCmp.Kit1
import Derived.Deep.RegionHeld3
namespace Go.Proofs.Ytcfbpilhgnofpaa
open Go.RowKit

theorem nan64 (x : Int) (w : World) : Calls Try.prog 65 #[.int .i64 x] w fun e w' => e = .returned (.bool false) ∧ w = w' := by
  go_enter Try.func65, Try.ntmps65
  go_wp2
  go_ret
  exact ⟨by simp, rfl⟩
theorem nanI (x : Int) (w : World) : Calls Try.prog 66 #[.int .i64 x] w fun e w' => e = .returned (.bool false) ∧ w = w' := by
  go_enter Try.func66, Try.ntmps66
  go_wp2
  go_ret
  exact ⟨by simp, rfl⟩
theorem cmp64 (x y : Int) (w : World) : Calls Try.prog 40 #[.int .i64 x, .int .i64 y] w fun e w' => e = .returned (.int .i64 (Lib.compareInt x y)) ∧ w = w' := by
  unfold Lib.compareInt
  by_cases h : x < y
  · rw [if_pos h]
    go_enter Try.func40, Try.ntmps40
    go_wp2_with (go_at_call 65; (with_reducible refine (nan64 _ _).mono ?_); rintro e w1 ⟨rfl, rfl⟩)
    go_ret
    exact ⟨rfl, rfl⟩
  · rw [if_neg h]
    by_cases g : x > y
    · rw [if_pos g]
      go_enter Try.func40, Try.ntmps40
      go_wp2_with (go_at_call 65; (with_reducible refine (nan64 _ _).mono ?_); rintro e w1 ⟨rfl, rfl⟩)
      go_ret
      exact ⟨rfl, rfl⟩
    · rw [if_neg g]
      go_enter Try.func40, Try.ntmps40
      go_wp2_with (go_at_call 65; (with_reducible refine (nan64 _ _).mono ?_); rintro e w1 ⟨rfl, rfl⟩)
      go_ret
      exact ⟨rfl, rfl⟩
theorem cmpI (x y : Int) (w : World) : Calls Try.prog 41 #[.int .i64 x, .int .i64 y] w fun e w' => e = .returned (.int .i64 (Lib.compareInt x y)) ∧ w = w' := by
  unfold Lib.compareInt
  by_cases h : x < y
  · rw [if_pos h]
    go_enter Try.func41, Try.ntmps41
    go_wp2_with (go_at_call 66; (with_reducible refine (nanI _ _).mono ?_); rintro e w1 ⟨rfl, rfl⟩)
    go_ret
    exact ⟨rfl, rfl⟩
  · rw [if_neg h]
    by_cases g : x > y
    · rw [if_pos g]
      go_enter Try.func41, Try.ntmps41
      go_wp2_with (go_at_call 66; (with_reducible refine (nanI _ _).mono ?_); rintro e w1 ⟨rfl, rfl⟩)
      go_ret
      exact ⟨rfl, rfl⟩
    · rw [if_neg g]
      go_enter Try.func41, Try.ntmps41
      go_wp2_with (go_at_call 66; (with_reducible refine (nanI _ _).mono ?_); rintro e w1 ⟨rfl, rfl⟩)
      go_ret
      exact ⟨rfl, rfl⟩
theorem or_two (a b r : Int) (hr : orI a b = r) (k o : Nat) (w : World) (h0 : w.cell? ⟨k, o, none⟩ = some (.int .i64 a)) (h1 : w.cell? ⟨k, o + 1, none⟩ = some (.int .i64 b)) :
    Calls Try.prog 39 #[.slice (some ⟨k, o, none⟩) 2 2] w fun e w' => e = .returned (.int .i64 r) ∧ w = w' := by
  unfold orI at hr
  have HR := hide hr
  clear hr
  go_enter Try.func39, Try.ntmps39
  go_wp2
  go_loop [8] (fun i => ∃ j : Nat, j ≤ 2 ∧ i = .int .i64 (j : Int) ∧ (0 < j → a = 0) ∧ (1 < j → b = 0)) (fun i => 2 - (intOf i).toNat)
  case atStart => exact ⟨0, by omega, rfl, by omega, by omega⟩
  case round =>
    obtain ⟨j, hj, rfl, p0, p1⟩ := hrel
    by_cases j0 : j = 0
    · subst j0
      by_cases ha : a = 0
      · subst ha
        clear p0 p1
        go_wp2
        go_round
        case rel => exact ⟨1, by omega, by go_num, by simp, by simp⟩
        case measure => simp [intOf]
      · have e := HR.out
        rw [if_neg ha] at e
        subst e
        have b0 : (a == 0) = false := beq_eq_false_iff_ne.2 ha
        clear p0 p1
        go_wp2
        go_ret
        exact ⟨rfl, rfl⟩
    by_cases j1 : j = 1
    · subst j1
      obtain rfl := p0 (by omega)
      clear p0 p1
      have e := HR.out
      rw [if_pos rfl] at e
      subst e
      by_cases hb : b = 0
      · subst hb
        go_wp2
        go_round
        case rel => exact ⟨2, by omega, by go_num, by simp, by simp⟩
        case measure => simp [intOf]
      · have b0 : (b == 0) = false := beq_eq_false_iff_ne.2 hb
        go_wp2
        go_ret
        exact ⟨rfl, rfl⟩
    · obtain rfl : j = 2 := by omega
      obtain rfl := p0 (by omega)
      obtain rfl := p1 (by omega)
      have e := HR.out
      rw [if_pos rfl] at e
      subst e
      clear p0 p1
      go_wp2
      go_ret
      exact ⟨rfl, rfl⟩
set_option maxHeartbeats 4000000 in
set_option maxRecDepth 1000000 in
theorem closure_any (rs : List Int) (n : Nat) (hn : rs.length = n) (x y : Fin n) (b1 : Nat) (ad : Option Addr) (cap : Nat) (W : World) (hc : W.cell? ⟨b1, 0, none⟩ = some (.slice ad n cap)) (hr : RowAt .i64 W ad rs) :
    Calls Try.prog 38 #[.int .i64 (x.val : Int), .int .i64 (y.val : Int), .pointer (some ⟨b1, 0, none⟩)] W fun e w' => e = .returned (.int .i64 (cfR rs n x y)) ∧ ∃ q os', w' = Sort.grow (W.drewN q) os' := by
  obtain ⟨x, hx⟩ := x
  obtain ⟨y, hy⟩ := y
  obtain ⟨b, off, rfl, c1⟩ := hr.get (show x < rs.length by omega)
  have c2 := hr.at (show y < rs.length by omega)
  unfold cfR
  show Calls _ _ #[.int .i64 (x : Int), .int .i64 (y : Int), _] W _
  simp only
  have C1 := fun w => cmp64 (rs.getD y 0) (rs.getD x 0) w
  have C2 := fun w => cmpI (x : Int) (y : Int) w
  generalize rs.getD y 0 = ry at *
  generalize rs.getD x 0 = rx at *
  generalize Lib.compareInt ry rx = p at *
  generalize Lib.compareInt (x : Int) (y : Int) = q at *
  obtain ⟨r, hr2⟩ : ∃ r, orI p q = r := ⟨_, rfl⟩
  rw [hr2]
  have CO := fun k w => or_two p q r hr2 k 0 w
  have HO := hide hr2
  clear hr hn hr2
  have z1 := World.new_ne W _ hc
  have z2 := World.new_ne W _ c1
  have z3 := World.new_ne W _ c2
  go_enter Try.func38, Try.ntmps38
  go_wp2_with fail
  go_region_held3 (fun w' => w'.cell? ⟨b1, 0, none⟩ = some (.slice (some ⟨b, off, none⟩) n cap) ∧ w'.cell? ⟨b, off + x, none⟩ = some (.int .i64 rx) ∧ w'.cell? ⟨b, off + y, none⟩ = some (.int .i64 ry)) (go_keep)
    (first
      | (go_at_call 40; (with_reducible refine (C1 _).mono ?_); rintro e w1 ⟨rfl, rfl⟩)
      | (go_at_call 41; (with_reducible refine (C2 _).mono ?_); rintro e w1 ⟨rfl, rfl⟩)
      | (go_at_call 39; (with_reducible refine (CO _ _ (by simp) (by simp)).mono ?_); rintro e w1 ⟨rfl, rfl⟩))
  go_wp2
  go_ret
  exact ⟨rfl, 1, #[_], by rw [Sort.alloc_eq_grow]; rfl⟩
theorem sort_cell {α : Type} [Inhabited α] (enc : α → Value) (w : World) (blk off m : Nat) (dk : Array α) (os : Array Obj) {b o : Nat} {v : Value} (h : w.cell? ⟨b, o, none⟩ = some v) (hne : b ≠ blk) : (sortWorld enc w blk off m dk os).cell? ⟨b, o, none⟩ = some v := by
  unfold sortWorld
  rw [Sort.cell?_grow _ _ _ (by simp only [Sort.size_putRow, Sort.heap_ahead]; exact cell_ltL h), Sort.cell?_putRow_other _ _ _ _ _ _ (Or.inl hne), Sort.cell?_ahead]
  exact h
theorem below_sort {α : Type} [Inhabited α] {enc : α → Value} {B : Nat} {w0 w : World} {g n : Nat} {d : Array α} {os : Array Obj} (h : Below B w0 w) (hg : B ≤ g) (hs : g < w.heap.size) : Below B w0 (sortWorld enc w g 0 n d os) := by
  refine Below.trans h ⟨rfl, rfl, rfl, by unfold sortWorld; simp, fun k hk => ?_⟩
  unfold sortWorld Sort.grow
  show ((Sort.putRow enc (Sort.ahead w n) g 0 d).heap ++ os)[k]? = w.heap[k]?
  rw [Array.getElem?_append_left (by rw [Sort.size_putRow, Sort.heap_ahead]; omega)]
  simp [Sort.putRow, Sort.mapBlock, Sort.ahead, Array.getElem?_modify, show g ≠ k by omega]
end Go.Proofs.Ytcfbpilhgnofpaa
