/- The program's images: a row. -/
import Derived.Test.YtcamllahcjonkaaS09F
namespace Go.Proofs.Ytcamllahcjonkaa
open Go.RowKit

theorem img_row_no {w : World} {g h : Nat} {I : Im} (H : ImgAt w g h I) (y : Int) (hy : y < 0 ∨ I.ih ≤ y) : Calls Try.prog 11 #[.pointer (some ⟨g, 0, none⟩), .int .i64 y] w fun e w' => e = .returned (.slice none 0 0) ∧ w = w' := by
  obtain ⟨cap, _, c1, -⟩ := H
  generalize I.ih = b at *
  rcases (show y < 0 ∨ (0 ≤ y ∧ b ≤ y) by omega) with h0 | ⟨h0, h1⟩
  all_goals
    clear hy
    go_enter Try.func11, Try.ntmps11
    go_wp2
    go_ret
    exact ⟨rfl, rfl⟩
set_option maxHeartbeats 4000000 in
theorem img_row_yes {w : World} {g h : Nat} {I : Im} (H : ImgAt w g h I) (y : Int) (y0 : 0 ≤ y) (y1 : y < I.ih) : Calls Try.prog 11 #[.pointer (some ⟨g, 0, none⟩), .int .i64 y] w fun e w' => ∃ v, e = .returned v ∧ OwnI .u16 22 w' w.heap.size v (imRow I y) ∧ Below w.heap.size w w' := by
  have hk := H.ok
  obtain ⟨l0, l1⟩ := imOk_len hk
  obtain ⟨r0, r1, r2, r3, r4, r5⟩ := row_in hk y0 y1
  have hl := imRow_len hk y0 y1
  have CP := img_place H (x := 0) (y := y) (z := 0) (hasF_iff.2 (by obtain ⟨a0, _, _, _, hc, _⟩ := hk; omega))
  rw [show imPlace I 0 y 0 = y * I.iw * I.ic by unfold imPlace placeF; rw [Int.add_zero, Int.add_zero]] at CP
  obtain ⟨cap, c0, c1, c2, c3, c4, hr, hz, hcap, -⟩ := H
  obtain ⟨k, hkk⟩ : ∃ k : Nat, (k : Int) = y * I.iw * I.ic := ⟨_, Int.toNat_of_nonneg r2⟩
  obtain ⟨n, hn⟩ : ∃ n : Nat, (n : Int) = I.iw * I.ic := ⟨_, Int.toNat_of_nonneg (by omega)⟩
  have hpart := hr.part k n (by omega)
  have HP := hide hpart
  have e1 : imRow I y = (I.il.drop k).take n := by unfold imRow; rw [← hkk, ← hn, Int.toNat_natCast, Int.toNat_natCast]
  rw [← hn, Int.toNat_natCast] at hl
  rw [← e1, Nat.zero_add] at hpart
  have HR := hide hpart
  have CC := fun cap w hr => clone16 (imRow I y) n hl h k cap (by omega) w hr
  rw [← hkk] at CP r2 r3
  rw [← hn] at r0 r1 r3
  have hm : I.iw * I.ic = (n : Int) := hn.symm
  generalize imRow I y = xs at *
  generalize I.il.length = m at *
  generalize I.iw = a at *
  generalize I.ih = b at *
  generalize I.ic = c at *
  clear hpart HP e1 hr hz hk hkk hn c3 r4 r5
  have hw1 : IntKind.i64.wrap (a * c) = (n : Int) := by rw [hm]; exact IntWalk.i64_in _ (by omega)
  have hw2 : IntKind.i64.wrap ((k : Int) + (n : Int)) = (k : Int) + (n : Int) := IntWalk.i64_in _ (by omega)
  clear hm
  go_enter Try.func11, Try.ntmps11
  go_upto_region 4 with (go_at_call 30; (with_reducible refine CP.mono ?_); rintro e w1 ⟨rfl, q, rfl⟩)
  go_region_with (go_at_call 31; (with_reducible refine (CC _ _ (HR.out.below (by repeat (first | exact Below.refl _ _ | (with_reducible refine bdN ?_ _) | (with_reducible refine bd ?_))))).mono ?_); rintro e w2 ⟨v, rfl, own, b2⟩)
  all_goals go_wp2
  all_goals go_ret
  all_goals exact ⟨_, rfl, own, bt (bdN (Below.refl _ _) _) b2⟩

end Go.Proofs.Ytcamllahcjonkaa
