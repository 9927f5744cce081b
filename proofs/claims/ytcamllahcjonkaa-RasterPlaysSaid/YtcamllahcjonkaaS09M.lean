/- The document's images, as values; what the statements ask of both. -/
import Derived.Test.YtcamllahcjonkaaS09H
namespace Go.Proofs.Ytcamllahcjonkaa
open Go.RowKit

/-- The document's image as a value: its samples lie in the block b. -/
def imV (I : Im) (b n cap : Nat) : Value := .agg #[.int .i64 I.iw, .int .i64 I.ih, .int .i64 I.ic, .int .i64 I.it, .slice (some ⟨b, 0, none⟩) n cap]
theorem din_any (I : Im) (s : Value) (x y z : Int) (w : World) : Calls Try.prog 37 #[.agg #[.int .i64 I.iw, .int .i64 I.ih, .int .i64 I.ic, .int .i64 I.it, s], .int .i64 x, .int .i64 y, .int .i64 z] w fun e w' => e = .returned (.bool (hasF I x y z)) ∧ Below w.heap.size w w' := by
  obtain ⟨b, hb⟩ : ∃ b, hasF I x y z = b := ⟨_, rfl⟩
  have HB := hide hb
  unfold hasF at hb
  rw [show hasF I x y z = b from HB.out]
  generalize I.iw = a at *
  generalize I.ih = a2 at *
  generalize I.ic = a3 at *
  generalize I.it = a4 at *
  by_cases h0 : 0 ≤ x
  · by_cases h2 : 0 ≤ y
    · by_cases h4 : 0 ≤ z
      · by_cases h1 : x < a
        · by_cases h3 : y < a2
          · by_cases h5 : z < a3
            · obtain rfl : b = true := by rw [← hb]; exact decide_eq_true (by omega)
              clear hb HB
              go_enter Try.func37, Try.ntmps37
              go_wp2
              go_ret
              exact ⟨rfl, below1 _ _⟩
            · obtain rfl : b = false := by rw [← hb]; exact decide_eq_false (by omega)
              clear hb HB
              go_enter Try.func37, Try.ntmps37
              go_wp2
              go_ret
              exact ⟨rfl, below1 _ _⟩
          · obtain rfl : b = false := by rw [← hb]; exact decide_eq_false (by omega)
            clear hb HB
            go_enter Try.func37, Try.ntmps37
            go_wp2
            go_ret
            exact ⟨rfl, below1 _ _⟩
        · obtain rfl : b = false := by rw [← hb]; exact decide_eq_false (by omega)
          clear hb HB
          go_enter Try.func37, Try.ntmps37
          go_wp2
          go_ret
          exact ⟨rfl, below1 _ _⟩
      · obtain rfl : b = false := by rw [← hb]; exact decide_eq_false (by omega)
        clear hb HB
        go_enter Try.func37, Try.ntmps37
        go_wp2
        go_ret
        exact ⟨rfl, below1 _ _⟩
    · obtain rfl : b = false := by rw [← hb]; exact decide_eq_false (by omega)
      clear hb HB
      go_enter Try.func37, Try.ntmps37
      go_wp2
      go_ret
      exact ⟨rfl, below1 _ _⟩
  · obtain rfl : b = false := by rw [← hb]; exact decide_eq_false (by omega)
    clear hb HB
    go_enter Try.func37, Try.ntmps37
    go_wp2
    go_ret
    exact ⟨rfl, below1 _ _⟩
/-- The bounds of what a place is made of. -/
theorem place_parts {I : Im} (hI : ImOk I) {x y z : Int} (h : hasF I x y z = true) : ∃ k : Nat, y * I.iw * I.ic + x * I.ic + z = (k : Int) ∧ k < I.il.length ∧ (imPlace I x y z).toNat = k ∧ 0 ≤ y * I.iw ∧ y * I.iw ≤ 4294967296 ∧ 0 ≤ y * I.iw * I.ic ∧ y * I.iw * I.ic ≤ 12884901888 ∧ 0 ≤ x * I.ic ∧ x * I.ic ≤ 196608 ∧ 0 ≤ z ∧ z < 3 := by
  obtain ⟨p0, p1, p2, p3⟩ := imPlace_in hI h
  obtain ⟨x0, x1, y0, y1, z0, z1⟩ := hasF_iff.1 h
  obtain ⟨r0, r1, r2, r3, r4, r5⟩ := row_in hI y0 y1
  have e := place_ref I.iw I.ic x y z
  have q0 : 0 ≤ x * I.ic := Int.mul_nonneg x0 (by omega)
  have q1 : x * I.ic ≤ I.iw * I.ic := Int.mul_le_mul_of_nonneg_right (by omega) (by omega)
  obtain ⟨_, _, _, _, hc, _, _, _, hl, _⟩ := hI
  have hl' : (I.il.length : Int) ≤ 268435456 := by omega
  refine ⟨(imPlace I x y z).toNat, ?_, p1, rfl, r4, r5, r2, by omega, q0, by omega, z0, by omega⟩
  rw [e, p2]
  rfl
theorem dat_any (I : Im) (b cap : Nat) (hI : ImOk I) (x y z : Int) (w : World) (hr : RowAt .u16 w (some ⟨b, 0, none⟩) I.il) : Calls Try.prog 27 #[imV I b I.il.length cap, .int .i64 x, .int .i64 y, .int .i64 z] w fun e w' => e = .returned (.int .u16 (imAt I x y z)) ∧ Below w.heap.size w w' := by
  unfold imV
  have CI := fun w => din_any I (.slice (some ⟨b, 0, none⟩) I.il.length cap) x y z w
  unfold imAt
  cases hh : hasF I x y z with
  | false =>
    rw [hh] at CI
    rw [if_neg (by decide)]
    clear hr hI hh
    generalize I.iw = a at *
    generalize I.ih = a2 at *
    generalize I.ic = a3 at *
    generalize I.it = a4 at *
    generalize I.il.length = n at *
    go_enter Try.func27, Try.ntmps27
    go_wp2_with (go_at_call 37; (with_reducible refine (CI _).mono ?_); rintro e w1 ⟨rfl, b1⟩)
    go_ret
    exact ⟨rfl, bt (below1 _ _) b1⟩
  | true =>
    rw [hh] at CI
    rw [if_pos rfl]
    obtain ⟨l0, l1⟩ := imOk_len hI
    obtain ⟨k, e, hk, hp, p0, p1, p2, p3, p4, p5, p6, p7⟩ := place_parts hI hh
    have hc := hr.at hk
    rw [Nat.zero_add] at hc
    rw [hp]
    have hl := cell_ltL hc
    clear hr hI hh hp
    generalize I.il.getD k 0 = u at *
    generalize I.iw = a at *
    generalize I.ih = a2 at *
    generalize I.ic = a3 at *
    generalize I.it = a4 at *
    generalize I.il.length = n at *
    go_enter Try.func27, Try.ntmps27
    go_wp2_with (go_at_call 37; (with_reducible refine (CI _).mono ?_); rintro e w1 ⟨rfl, b1⟩; have q0 := cb b1 (b := w.heap.size) (o := 0) (v := .int .i64 a) (by simp) (by simp); have q2 := cb b1 (b := w.heap.size) (o := 2) (v := .int .i64 a3) (by simp) (by simp); have q4 := cb b1 (b := w.heap.size) (o := 4) (v := .slice (some ⟨b, 0, none⟩) n cap) (by simp) (by simp); have hc1 := cb b1 (by simp; omega) (cb (below1 w _) hl hc))
    go_ret
    exact ⟨rfl, bt (below1 _ _) b1⟩
end Go.Proofs.Ytcamllahcjonkaa
