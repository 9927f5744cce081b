/- What each source sample weighs: the law on boxes, its walk. -/
import Derived.Test.YtjmdknbbgmajoaaDoorS05H
namespace Go.Proofs.YtjmdknbbgmajoaaDoor
open Go.RowKit


theorem sumB_in {n m i j0 : Int} {c : Nat} (n0 : 1 ≤ n) (n1 : n ≤ 65536) (m0 : 1 ≤ m) (i0 : 0 ≤ i) (i1 : i < m) (h : IsWin 0 n m i j0 c) (k : Nat) (hk : k ≤ c) : 0 ≤ sumB n m i j0 k ∧ sumB n m i j0 k ≤ (k : Int) * 1073741824 := by
  cases k with
  | zero => exact ⟨Int.le_refl 0, Int.le_refl 0⟩
  | succ k =>
    obtain ⟨_, _, a, b⟩ := sumB_at n0 n1 m0 i0 i1 h k (by omega)
    refine ⟨a, ?_⟩
    rw [show ((k + 1 : Nat) : Int) = (k : Int) + 1 by omega]; exact b
set_option maxHeartbeats 4000000 in
set_option maxRecDepth 1000000 in
theorem of_RawBox (a b c : Int) (ha : 0 ≤ a ∧ a ≤ 4294967295) (hb : 0 ≤ b ∧ b ≤ 4294967295) (hc : 0 ≤ c ∧ c ≤ 4294967295) (CR : RowC) (CK : KeysC) (w : World) (hkd : Kinds w) :
    Calls Tryd.prog 4 #[.int .u32 a, .int .u32 b, .int .u32 c] w fun e w' => e = .returned (.bool true) ∧ Below w.heap.size w w' := by
  have CL := rlives CR CK w hkd
  obtain ⟨n, n0, n1, CA⟩ := side_walk a ha.1 ha.2
  obtain ⟨m, m0, m1, CB⟩ := side_walk b hb.1 hb.2
  have CS := small_walk n m n0 n1 m0 m1
  obtain ⟨c0, c1⟩ := hc
  clear ha hb CK
  by_cases hs : n / m ≤ 40
  · rw [decide_eq_true hs] at CS
    clear hs
    have hm0 : (m == 0) = false := beq_eq_false_iff_ne.2 (by omega)
    have i0 : 0 ≤ c % m := Int.emod_nonneg c (by omega)
    have i1 : c % m < m := Int.emod_lt_of_pos c (by omega)
    have C3 := CR 0 n m (c % m) ⟨by omega, by omega, n0, n1, m0, m1, i0, i1⟩
    clear CR
    obtain ⟨i, hi⟩ : ∃ i, c % m = i := ⟨_, rfl⟩
    rw [hi] at i0 i1 C3
    go_enter Tryd.func4, Tryd.ntmps4
    go_wp2_with (first
      | (go_at_call 8; (with_reducible refine CL.mono ?_); rintro e w1 ⟨rfl, b1⟩)
      | (go_at_call 15; (with_reducible refine (CA _).mono ?_); rintro e w2 ⟨rfl, b2⟩)
      | (go_at_call 15; (with_reducible refine (CB _).mono ?_); rintro e w3 ⟨rfl, b3⟩)
      | (go_at_call 10; (with_reducible refine (CS _).mono ?_); rintro e w4 ⟨rfl, b4⟩)
      | (go_at_call 11; (with_reducible refine (C3 _ (kinds_below hkd (by repeat (first | exact Below.refl _ _ | assumption | exact HB.out | (with_reducible refine bt ?_ (by assumption)) | with_reducible refine bd ?_ | with_reducible refine ba ?_ _)))).mono ?_); rintro e w5 ⟨j0, k0, v, hwin, rfl, ho1, b5⟩; obtain ⟨g1, p1, rfl, l1⟩ := owns_form ho1 hwin.1))
    obtain ⟨e0, e1, e2, e3⟩ := box_ends n0 m0 i0 i1 hwin
    obtain ⟨s0, s1⟩ := sumB_end n0 n1 m0 i0 i1 hwin
    have BA : ∃ wx, Below w.heap.size w wx ∧ wx = w5 := ⟨w5, by repeat (first | exact Below.refl _ _ | (with_reducible refine bt ?_ (by assumption))), rfl⟩
    obtain ⟨_, BA, rfl⟩ := BA
    have WH := hide hwin
    have kpos := hwin.1
    clear hwin b1 b2 b3 b4 b5 CL CA CB CS C3 l1
    generalize w4.heap.size = n4 at *
    go_loopw [39, 12] (fun u s wr => ∃ k : Nat, u = .int .i64 (k : Int) ∧ k ≤ k0 ∧ s = .int .i64 (sumB n m i j0 k) ∧ Below w.heap.size w wr ∧ wr.ownsRow n4 2 1 (.slice (some ⟨g1, 0, none⟩) k0 p1) k0 (rowR 0 n m i j0 k0)) (fun u _ _ => k0 - (intOf u).toNat)
    case atStart => exact ⟨0, rfl, by omega, rfl, BA, ho1⟩
    case round =>
      obtain ⟨k, rfl, hk, rfl, hb, o1⟩ := hrel
      have HB := hide hb
      have HO1 := hide o1
      clear hb BA ho1
      obtain ⟨t0, t1⟩ := sumB_in n0 n1 m0 i0 i1 WH.out k hk
      by_cases hlt : k < k0
      · have q1 := owns_cell o1 hlt
        obtain ⟨_, _, x0, x1, _, _⟩ := box_part n0 n1 m0 (WH.out.2.2.1 k hlt)
        have hsum : sumB n m i j0 (k + 1) = sumB n m i j0 k + weightR 0 n m i (j0 + (k : Nat)) := rfl
        have HS := hide hsum
        clear o1 hsum
        generalize weightR 0 n m i (j0 + (k : Nat)) = W at *
        go_wp2
        go_roundw
        case rel => exact ⟨k + 1, by go_num, by omega, by rw [HS.out], HB.out, HO1.out⟩
        case measure => simp [intOf]; omega
      · obtain rfl : k = k0 := by omega
        have z0 := (side_bounds n0 n1 m0 m1 i0 i1 (j := j0) (by omega) (by omega)).1
        have z1 := (side_bounds n0 n1 m0 m1 i0 i1 (j := j0) (by omega) (by omega)).2.1
        have z2 := (side_bounds n0 n1 m0 m1 i0 i1 (j := j0) (by omega) (by omega)).2.2.1
        have z3 := (side_bounds n0 n1 m0 m1 i0 i1 (j := j0 + (k : Int)) (by omega) (by omega)).2.2.1
        obtain ⟨z00, z01⟩ := z0
        obtain ⟨z10, z11⟩ := z1
        obtain ⟨z20, z21⟩ := z2
        obtain ⟨z30, z31⟩ := z3
        clear o1 hk hlt
        generalize sumB n m i j0 k = T at *
        go_wp2
        go_ret
        exact ⟨rfl, HB.out⟩
  · rw [decide_eq_false hs] at CS
    clear hs CR
    go_enter Tryd.func4, Tryd.ntmps4
    go_wp2_with (first
      | (go_at_call 8; (with_reducible refine CL.mono ?_); rintro e w1 ⟨rfl, b1⟩)
      | (go_at_call 15; (with_reducible refine (CA _).mono ?_); rintro e w2 ⟨rfl, b2⟩)
      | (go_at_call 15; (with_reducible refine (CB _).mono ?_); rintro e w3 ⟨rfl, b3⟩)
      | (go_at_call 10; (with_reducible refine (CS _).mono ?_); rintro e w4 ⟨rfl, b4⟩))
    go_ret
    refine ⟨rfl, ?_⟩
    repeat (first | exact Below.refl _ _ | (with_reducible refine bt ?_ (by assumption)))
end Go.Proofs.YtjmdknbbgmajoaaDoor
