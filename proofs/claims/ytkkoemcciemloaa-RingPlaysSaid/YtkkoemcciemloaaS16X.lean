/- A row of numbers, and a ring compared with the document's. -/
import Derived.Test.YtkkoemcciemloaaS16V
import Derived.Test.YtkkoemcciemloaaS16W
import Derived.Test.YtkkoemcciemloaaS16S
namespace Go.Proofs.Ytkkoemcciemloaa
open Go.RowKit
open Go.Maps (Keyed)
open Go.MapKept Go.ChangeMaps


set_option maxHeartbeats 4000000 in
theorem row16_any (n : Nat) (v : Int) (hn : n ≤ 1000) (w : World) : Calls Try.prog 18 #[.int .i64 (n : Int), .int .i64 v] w fun e w' => ∃ u xs, e = .returned u ∧ xs.length = n ∧ OwnI .i64 2 w' w.heap.size u xs ∧ Below w.heap.size w w' := by
  obtain ⟨i0, hi, hz0, hz1, hz2⟩ := info_parts infoI64R
  go_enter Try.func18, Try.ntmps18
  go_wp2
  go_loopw [5, 8] (fun vl vk wr => ∃ (k : Nat) (xs : List Int), k ≤ n ∧ vk = .int .i64 (k : Int) ∧ xs.length = k ∧ OwnI .i64 2 wr w.heap.size vl xs ∧ Below w.heap.size w wr) (fun _ vk _ => n - (intOf vk).toNat)
  case atStart => exact ⟨0, [], by omega, rfl, rfl, OwnI.nil _ _ _ _, Below.refl _ _⟩
  case round =>
    obtain ⟨k, xs, hk, rfl, hx, ho, hb⟩ := hrel
    have HX := hide hx
    have HO := hide ho
    have HB := hide hb
    clear hx ho hb
    by_cases hlt : k < n
    · go_wp2_with (at_builtin; refine wpList_append_own _ rfl _ _ 26 rfl w.heap.size 2 i0 (.int .i64 0) 1 8 Try.underlying26 hi hz0 hz1 hz2 rfl (by decide) _ xs.length (xs.map (Value.int .i64)) rfl (OwnI.alloc HO.out _) ⟨wr.heap.size, 0, none⟩ 1 1 [.int .i64 _] rfl rfl (new_one _ _ _) (one_int _ _) (by have := HX.out; unfold maxLen; omega) (by have := HX.out; omega) (by have := HB.out.size; simp; omega) ?_; intro v' w2 own2 grow2 _; have HM := hide (own_more HB.out HO.out own2 grow2); clear own2 grow2)
      go_roundw
      case rel => exact ⟨k + 1, _, by omega, by go_num, by simp; exact HX.out, HM.out.1, HM.out.2⟩
      case measure => simp [intOf]; omega
    · obtain rfl : k = n := by omega
      go_wp2
      go_ret
      exact ⟨_, xs, rfl, HX.out, HO.out, HB.out⟩
theorem row_of {L : List (Int × List Int)} (hr : RisingR L) {y : Int × List Int} (hy : y ∈ L) : hasJ L y.1 = true ∧ rowJ L y.1 = y.2 := by
  have h1 := (hasJ_iff L y.1).2 ⟨y, hy, rfl⟩
  refine ⟨h1, ?_⟩
  have h2 := rowJ_mem h1
  by_cases e : (y.1, rowJ L y.1) = y
  · exact congrArg Prod.snd e
  · exfalso
    obtain ⟨i, hi, e1⟩ := List.mem_iff_getElem.1 hy
    obtain ⟨k, hk, e2⟩ := List.mem_iff_getElem.1 h2
    have hp := List.pairwise_iff_getElem.1 hr
    rcases Nat.lt_trichotomy i k with q | q | q
    · have := hp i k hi hk q
      rw [e1, e2] at this
      simp at this
    · subst q
      exact e (e2.symm.trans e1)
    · have := hp k i hk hi q
      rw [e1, e2] at this
      simp at this
theorem first_at {L : List (Int × List Int)} (h : 0 < L.length) : firstJ L = (lnAt L 0).1 ∧ (!L.isEmpty) = true := by
  cases L with
  | nil => simp at h
  | cons y r => exact ⟨rfl, rfl⟩
end Go.Proofs.Ytkkoemcciemloaa
