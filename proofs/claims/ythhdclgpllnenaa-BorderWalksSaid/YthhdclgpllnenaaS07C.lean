/- What stands beyond the edge: so many, one behind the other; and the laws. -/
import Derived.Test.YthhdclgpllnenaaS07B
import Derived.Test.YthhdclgpllnenaaLM
import Derived.Test.YthhdclgpllnenaaSM
namespace Go.Proofs.Ythhdclgpllnenaa
open Go.RowKit


/-- Those of first, and of so many behind it. -/
def spanTo (p first n : Int) (j : Nat) : List Int := (List.range j).map fun k : Nat => atF p (holdI (first + (k : Int))) n
theorem spanTo_snoc (p first n : Int) (j : Nat) : spanTo p first n (j + 1) = spanTo p first n j ++ [atF p (holdI (first + (j : Int))) n] := by unfold spanTo; rw [List.range_succ, List.map_append]; rfl
theorem spanTo_len (p first n : Int) (j : Nat) : (spanTo p first n j).length = j := by unfold spanTo; rw [List.length_map, List.length_range]
theorem span_none (p first c n : Int) (h : c ≤ 0) (w : World) :
    Calls Try.prog 11 #[.int .i64 p, .int .i64 first, .int .i64 c, .int .i64 n] w fun e w' => e = .returned (.slice none 0 0) ∧ w = w' := by
  go_enter Try.func11, Try.ntmps11
  go_wp2
  go_ret
  exact ⟨rfl, rfl⟩
set_option maxHeartbeats 1000000 in
theorem span_some (p first n : Int) (c : Nat) (c0 : 1 ≤ c) (c1 : c ≤ 1048576) (h0 : -9223372036854775808 ≤ first) (h1 : first ≤ 9223372036854775807) (w : World) :
    Calls Try.prog 11 #[.int .i64 p, .int .i64 first, .int .i64 (c : Int), .int .i64 n] w fun e w' => ∃ v, e = .returned v ∧ OwnI .i64 2 w' w.heap.size v (spanTo p first n c) ∧ Below w.heap.size w w' := by
  obtain ⟨zs, MK, MO, _⟩ := make64 c c1
  have HMO := hide MO
  clear MO
  go_enter Try.func11, Try.ntmps11
  go_wp2
  have O1 := HMO.out w w.heap.size (Nat.le_refl _)
  rw [← padZ_nil] at O1
  have HO1 := hide O1
  have HB1 := hide (ba (Below.refl w.heap.size w) (.cells zs 2))
  clear MK HMO O1
  generalize w.alloc (.cells zs 2) = w1 at *
  go_loopw [21] (fun i wr => ∃ k : Nat, k ≤ c ∧ i = .int .i64 (k : Int) ∧ OwnI .i64 2 wr w.heap.size (.slice (some ⟨w.heap.size, 0, none⟩) c c) (padZ (spanTo p first n k) c) ∧ Below w.heap.size w wr) (fun i _ => c - (intOf i).toNat)
  case atStart => exact ⟨0, by omega, rfl, HO1.out, HB1.out⟩
  case round =>
    clear HO1 HB1
    obtain ⟨k, hk, rfl, ho, hb⟩ := hrel
    have HO := hide ho
    have HB := hide hb
    clear ho hb
    by_cases hlt : k < c
    · have CA := fun w => fixadd_any first (k : Int) h0 h1 (by omega) (by omega) w
      have d0 := holdI0 (first + (k : Int))
      have d1 := holdI1 (first + (k : Int))
      have HS := hide (spanTo_snoc p first n k)
      have LK := spanTo_len p first n k
      have LP := padZ_len (L := spanTo p first n k) (n := c) (by omega)
      have HP := hide (padZ_set LK hlt (atF p (holdI (first + (k : Int))) n))
      have c1 := HO.out.cellAt LP hlt
      have z1 := HO.out.frozenAt LP k
      have ST := HO.out.stored LP k (atF p (holdI (first + (k : Int))) n)
      rw [HP.out, ← HS.out] at ST
      have H5 := hide (And.intro ST (bs HB.out (Nat.le_refl _) (b := w.heap.size) (o := k) (.int .i64 (atF p (holdI (first + (k : Int))) n))))
      clear LK LP HP ST HS
      generalize holdI (first + (k : Int)) = d at *
      have CE := fun w => at_any p d n d0 d1 w
      generalize atF p d n = x at *
      go_wp2_with (first
        | (go_at_call 16; (with_reducible refine (CA _).mono ?_); rintro e w2 ⟨rfl, rfl⟩)
        | (go_at_call 8; (with_reducible refine (CE _).mono ?_); rintro e w2 ⟨rfl, rfl⟩))
      go_roundw
      case rel => exact ⟨k + 1, by omega, by go_num, H5.out.1, H5.out.2⟩
      case measure => simp [intOf]; omega
    · obtain rfl : k = c := by omega
      have O2 := HO.out
      rw [padZ_full (spanTo_len p first n k)] at O2
      have HO2 := hide O2
      clear O2
      go_wp2
      go_ret
      exact ⟨_, rfl, HO2.out, HB.out⟩
/-! ### The laws -/
theorem elives (w : World) : Calls Try.prog 7 #[] w fun e w' => e = .returned (.bool true) ∧ w = w' := by
  have C := fun p j n h0 h1 w => at_any p j n h0 h1 w
  have e1 : atF 1 (-1) 3 = 0 := by decide
  have e2 : atF 1 (-4) 3 = 2 := by decide
  have e3 : atF 1 3 3 = 2 := by decide
  have e4 : atF 2 (-1) 3 = 2 := by decide
  have e5 : atF 0 9 3 = 2 := by decide
  have C1 := at_any 1 (-1) 3 (by omega) (by omega)
  have C2 := at_any 1 (-4) 3 (by omega) (by omega)
  have C3 := at_any 1 3 3 (by omega) (by omega)
  have C4 := at_any 2 (-1) 3 (by omega) (by omega)
  have C5 := at_any 0 9 3 (by omega) (by omega)
  rw [e1] at C1
  rw [e2] at C2
  rw [e3] at C3
  rw [e4] at C4
  rw [e5] at C5
  clear e1 e2 e3 e4 e5 C
  go_enter Try.func7, Try.ntmps7
  go_wp2_with (first
    | (go_at_call 8; (with_reducible refine (C1 _).mono ?_); rintro e w2 ⟨rfl, rfl⟩)
    | (go_at_call 8; (with_reducible refine (C2 _).mono ?_); rintro e w2 ⟨rfl, rfl⟩)
    | (go_at_call 8; (with_reducible refine (C3 _).mono ?_); rintro e w2 ⟨rfl, rfl⟩)
    | (go_at_call 8; (with_reducible refine (C4 _).mono ?_); rintro e w2 ⟨rfl, rfl⟩)
    | (go_at_call 8; (with_reducible refine (C5 _).mono ?_); rintro e w2 ⟨rfl, rfl⟩))
  go_ret
  exact ⟨rfl, rfl⟩
end Go.Proofs.Ythhdclgpllnenaa
