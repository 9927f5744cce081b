/- The program's images: what is asked of them. -/
import Derived.Test.YtoppojilndnghaaDoorS09E
import Derived.Deep.QuietTactic
import Derived.Deep.RegionWith
namespace Go.Proofs.YtoppojilndnghaaDoor
open Go.RowKit


theorem img_width {w : World} {g h : Nat} {I : Im} (H : ImgAt w g h I) : Calls Tryd.prog 29 #[.pointer (some ⟨g, 0, none⟩)] w fun e w' => e = .returned (.int .i64 I.iw) ∧ w = w' := by
  obtain ⟨cap, c0, -⟩ := H
  generalize I.iw = a at *
  go_enter Tryd.func29, Tryd.ntmps29
  go_wp2
  go_ret
  exact ⟨rfl, rfl⟩
theorem img_height {w : World} {g h : Nat} {I : Im} (H : ImgAt w g h I) : Calls Tryd.prog 30 #[.pointer (some ⟨g, 0, none⟩)] w fun e w' => e = .returned (.int .i64 I.ih) ∧ w = w' := by
  obtain ⟨cap, _, c0, -⟩ := H
  generalize I.ih = a at *
  go_enter Tryd.func30, Tryd.ntmps30
  go_wp2
  go_ret
  exact ⟨rfl, rfl⟩
theorem img_channels {w : World} {g h : Nat} {I : Im} (H : ImgAt w g h I) : Calls Tryd.prog 31 #[.pointer (some ⟨g, 0, none⟩)] w fun e w' => e = .returned (.int .i64 I.ic) ∧ w = w' := by
  obtain ⟨cap, _, _, c0, -⟩ := H
  generalize I.ic = a at *
  go_enter Tryd.func31, Tryd.ntmps31
  go_wp2
  go_ret
  exact ⟨rfl, rfl⟩
theorem img_most {w : World} {g h : Nat} {I : Im} (H : ImgAt w g h I) : Calls Tryd.prog 17 #[.pointer (some ⟨g, 0, none⟩)] w fun e w' => e = .returned (.int .i64 I.it) ∧ w = w' := by
  obtain ⟨cap, _, _, _, c0, -⟩ := H
  generalize I.it = a at *
  go_enter Tryd.func17, Tryd.ntmps17
  go_wp2
  go_ret
  exact ⟨rfl, rfl⟩
theorem img_samples {w : World} {g h : Nat} {I : Im} (H : ImgAt w g h I) : Calls Tryd.prog 18 #[.pointer (some ⟨g, 0, none⟩)] w fun e w' => ∃ v, e = .returned v ∧ OwnI .u16 36 w' w.heap.size v I.il ∧ Below w.heap.size w w' := by
  obtain ⟨l0, l1⟩ := imOk_len H.ok
  obtain ⟨cap, _, _, _, _, c4, hr, -⟩ := H
  have CC := fun w hr => clone16 I.il I.il.length rfl h 0 cap l1 w hr
  have HR := hide hr
  generalize I.il.length = n at *
  clear hr
  go_enter Tryd.func18, Tryd.ntmps18
  go_wp2_with (go_at_call 35; (with_reducible refine (CC _ HR.out).mono ?_); rintro e w2 ⟨v, rfl, own, b2⟩)
  go_ret
  exact ⟨_, rfl, own, b2⟩
theorem img_has {w : World} {g h : Nat} {I : Im} (H : ImgAt w g h I) (x y z : Int) : Calls Tryd.prog 53 #[.pointer (some ⟨g, 0, none⟩), .int .i64 x, .int .i64 y, .int .i64 z] w fun e w' => e = .returned (.bool (hasF I x y z)) ∧ w = w' := by
  obtain ⟨cap, c0, c1, c2, -⟩ := H
  obtain ⟨b, hb⟩ : ∃ b, hasF I x y z = b := ⟨_, rfl⟩
  have HB := hide hb
  unfold hasF at hb
  rw [show hasF I x y z = b from HB.out]
  generalize I.iw = a at *
  generalize I.ih = a2 at *
  generalize I.ic = a3 at *
  by_cases h0 : 0 ≤ x
  · by_cases h1 : x < a
    · by_cases h2 : 0 ≤ y
      · by_cases h3 : y < a2
        · by_cases h4 : 0 ≤ z
          · by_cases h5 : z < a3
            · obtain rfl : b = true := by rw [← hb]; exact decide_eq_true (by omega)
              clear hb HB
              go_enter Tryd.func53, Tryd.ntmps53
              go_wp2
              go_ret
              exact ⟨rfl, rfl⟩
            · obtain rfl : b = false := by rw [← hb]; exact decide_eq_false (by omega)
              clear hb HB
              go_enter Tryd.func53, Tryd.ntmps53
              go_wp2
              go_ret
              exact ⟨rfl, rfl⟩
          · obtain rfl : b = false := by rw [← hb]; exact decide_eq_false (by omega)
            clear hb HB
            go_enter Tryd.func53, Tryd.ntmps53
            go_wp2
            go_ret
            exact ⟨rfl, rfl⟩
        · obtain rfl : b = false := by rw [← hb]; exact decide_eq_false (by omega)
          clear hb HB
          go_enter Tryd.func53, Tryd.ntmps53
          go_wp2
          go_ret
          exact ⟨rfl, rfl⟩
      · obtain rfl : b = false := by rw [← hb]; exact decide_eq_false (by omega)
        clear hb HB
        go_enter Tryd.func53, Tryd.ntmps53
        go_wp2
        go_ret
        exact ⟨rfl, rfl⟩
    · obtain rfl : b = false := by rw [← hb]; exact decide_eq_false (by omega)
      clear hb HB
      go_enter Tryd.func53, Tryd.ntmps53
      go_wp2
      go_ret
      exact ⟨rfl, rfl⟩
  · obtain rfl : b = false := by rw [← hb]; exact decide_eq_false (by omega)
    clear hb HB
    go_enter Tryd.func53, Tryd.ntmps53
    go_wp2
    go_ret
    exact ⟨rfl, rfl⟩
theorem img_place {w : World} {g h : Nat} {I : Im} (H : ImgAt w g h I) {x y z : Int} (hh : hasF I x y z = true) : Calls Tryd.prog 54 #[.pointer (some ⟨g, 0, none⟩), .int .i64 x, .int .i64 y, .int .i64 z] w fun e w' => e = .returned (.int .i64 (imPlace I x y z)) ∧ Drew w w' := by
  have hk := H.ok
  obtain ⟨a0, a1, b0, b1, hc, _, _, hm, _, _⟩ := hk
  obtain ⟨x0, x1, y0, y1, z0, z1⟩ := hasF_iff.1 hh
  obtain ⟨p0, p1, p2, p3, p4, p5⟩ := place_in x0 x1 y0 y1 z0 z1
  obtain ⟨m0, m1⟩ := side_mul a0 a1 b0 b1
  obtain ⟨cap, c0, c1, c2, -⟩ := H
  unfold imPlace
  have HP := hide (show placeF I.iw I.ic x y z = (y * I.iw + x) * I.ic + z from rfl)
  rw [HP.out] at p4 p5 ⊢
  clear hh HP
  generalize I.iw = a at *
  generalize I.ih = b at *
  generalize I.ic = c at *
  go_enter Tryd.func54, Tryd.ntmps54
  go_wp2_with fail
  go_quiet (fail)
  go_wp2
  go_ret
  exact ⟨rfl, (Drew.refl _).more _⟩
theorem img_set_no {w : World} {g h : Nat} {I : Im} (H : ImgAt w g h I) (x y z v : Int) (v0 : 0 ≤ v) (v1 : v ≤ 65535) (hs : setOk I x y z v = false) : Calls Tryd.prog 41 #[.pointer (some ⟨g, 0, none⟩), .int .i64 x, .int .i64 y, .int .i64 z, .int .u16 v] w fun e w' => e = .returned (.bool false) ∧ w = w' := by
  have CH := img_has H x y z
  cases hh : hasF I x y z with
  | false =>
    rw [hh] at CH
    clear H hh hs
    go_enter Tryd.func41, Tryd.ntmps41
    go_wp2_with (go_at_call 53; (with_reducible refine CH.mono ?_); rintro e w1 ⟨rfl, rfl⟩)
    go_ret
    exact ⟨rfl, rfl⟩
  | true =>
    rw [hh] at CH
    have ht : I.it < v := by
      unfold setOk at hs
      rw [hh, Bool.true_and, decide_eq_false_iff_not] at hs
      omega
    obtain ⟨cap, c0, c1, c2, c3, -⟩ := H
    generalize I.it = t at *
    clear hh hs c0 c1 c2
    go_enter Tryd.func41, Tryd.ntmps41
    go_wp2_with (go_at_call 53; (with_reducible refine CH.mono ?_); rintro e w1 ⟨rfl, rfl⟩)
    go_ret
    exact ⟨rfl, rfl⟩
theorem img_set_yes {w : World} {g h : Nat} {I : Im} (H : ImgAt w g h I) (x y z v : Int) (v0 : 0 ≤ v) (v1 : v ≤ 65535) (hs : setOk I x y z v = true) : Calls Tryd.prog 41 #[.pointer (some ⟨g, 0, none⟩), .int .i64 x, .int .i64 y, .int .i64 z, .int .u16 v] w fun e w' => e = .returned (.bool true) ∧ ImgAt w' g h (imSet I x y z v) ∧ w.grownBy w' (some h) := by
  have CH := img_has H x y z
  have hs' := hs
  unfold setOk at hs'
  rw [Bool.and_eq_true, decide_eq_true_iff] at hs'
  obtain ⟨hh, ht⟩ := hs'
  rw [hh] at CH
  have CP := img_place (H.below (bd (Below.refl _ _))) hh
  have HF := hide (fun n => (H.below (bdN (Below.refl _ _) n)).put v0 hs)
  obtain ⟨p0, p1, p2, p3⟩ := imPlace_in H.ok hh
  obtain ⟨l0, l1⟩ := imOk_len H.ok
  obtain ⟨cap, c0, c1, c2, c3, c4, hr, hz, -⟩ := H
  have hc := hr.at p1
  rw [Nat.zero_add] at hc
  have hz := hz _ p1
  rw [← p2] at CP
  generalize (imPlace I x y z).toNat = k at *
  generalize I.il.getD k 0 = u at *
  generalize I.il.length = n at *
  generalize I.it = t at *
  clear hh hr c0 c1 c2 p2 p0 p3 hs
  go_enter Tryd.func41, Tryd.ntmps41
  go_upto_region 3 with (go_at_call 53; (with_reducible refine CH.mono ?_); rintro e w1 ⟨rfl, rfl⟩)
  go_region_with (go_at_call 54; (with_reducible refine CP.mono ?_); rintro e w2 ⟨rfl, m, rfl⟩)
  all_goals go_wp2
  all_goals go_ret
  all_goals exact ⟨rfl, HF.out _, (grown_drewN w _ _).trans (grown_set _ _ _ _)⟩
end Go.Proofs.YtoppojilndnghaaDoor
