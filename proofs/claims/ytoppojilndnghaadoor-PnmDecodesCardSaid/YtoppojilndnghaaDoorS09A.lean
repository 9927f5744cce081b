/- Images as values: sizes, places, codes. Plain arithmetic; no number of the program stands in it. -/
import Derived.Test.YtoppojilndnghaaDoorLB
namespace Go.Proofs.YtoppojilndnghaaDoor
open Go.RowKit


/-- An image as a value: width, height, channels, greatest sample, samples. -/
structure Im where
  iw : Int
  ih : Int
  ic : Int
  it : Int
  il : List Int
/-- One that there may be. -/
def ImOk (I : Im) : Prop :=
  1 ≤ I.iw ∧ I.iw ≤ 65536 ∧ 1 ≤ I.ih ∧ I.ih ≤ 65536 ∧ (I.ic = 1 ∨ I.ic = 3) ∧ 1 ≤ I.it ∧ I.it ≤ 65535 ∧ I.iw * I.ih * I.ic ≤ 268435456 ∧ (I.il.length : Int) = I.iw * I.ih * I.ic ∧ ∀ x ∈ I.il, 0 ≤ x ∧ x ≤ I.it
/-- May an image have these? -/
def fitsF (a b c : Int) : Bool := decide (1 ≤ a ∧ a ≤ 65536 ∧ 1 ≤ b ∧ b ≤ 65536 ∧ (c = 1 ∨ c = 3) ∧ a * b * c ≤ 268435456)
/-- The code of what it is to have. -/
def codeF (a b c t : Int) : Int := if t < 1 ∨ 65535 < t ∨ ¬(c = 1 ∨ c = 3) then 2 else if fitsF a b c = true then 0 else 5
theorem fitsF_iff {a b c : Int} : fitsF a b c = true ↔ (1 ≤ a ∧ a ≤ 65536 ∧ 1 ≤ b ∧ b ≤ 65536 ∧ (c = 1 ∨ c = 3) ∧ a * b * c ≤ 268435456) := by unfold fitsF; exact decide_eq_true_iff
theorem codeF_zero {a b c t : Int} (h : codeF a b c t = 0) : 1 ≤ t ∧ t ≤ 65535 ∧ 1 ≤ a ∧ a ≤ 65536 ∧ 1 ≤ b ∧ b ≤ 65536 ∧ (c = 1 ∨ c = 3) ∧ a * b * c ≤ 268435456 := by
  unfold codeF at h
  split at h
  · omega
  · split at h
    · have := fitsF_iff.1 (by assumption)
      omega
    · omega
theorem codeF_of {a b c t : Int} (t0 : 1 ≤ t) (t1 : t ≤ 65535) (a0 : 1 ≤ a) (a1 : a ≤ 65536) (b0 : 1 ≤ b) (b1 : b ≤ 65536) (hc : c = 1 ∨ c = 3) (h : a * b * c ≤ 268435456) : codeF a b c t = 0 := by
  unfold codeF
  rw [if_neg (by omega), if_pos (fitsF_iff.2 ⟨a0, a1, b0, b1, hc, h⟩)]
/-- Products of sides. -/
theorem side_mul {a b : Int} (a0 : 1 ≤ a) (a1 : a ≤ 65536) (b0 : 1 ≤ b) (b1 : b ≤ 65536) : 1 ≤ a * b ∧ a * b ≤ 4294967296 := by
  have h1 := Int.mul_le_mul a1 b1 (by omega) (by omega)
  have h2 := Int.mul_le_mul a0 b0 (by omega) (by omega)
  omega
theorem side_mul3 {a b c : Int} (a0 : 1 ≤ a) (a1 : a ≤ 65536) (b0 : 1 ≤ b) (b1 : b ≤ 65536) (hc : c = 1 ∨ c = 3) : 1 ≤ a * b * c ∧ a * b * c ≤ 12884901888 := by
  have := side_mul a0 a1 b0 b1
  rcases hc with rfl | rfl <;> omega
/-- Where a sample stands. -/
def placeF (a c x y z : Int) : Int := (y * a + x) * c + z
theorem place_in {a b c x y z : Int} (x0 : 0 ≤ x) (x1 : x < a) (y0 : 0 ≤ y) (y1 : y < b) (z0 : 0 ≤ z) (z1 : z < c) : 0 ≤ y * a ∧ 0 ≤ y * a + x ∧ y * a + x < a * b ∧ 0 ≤ (y * a + x) * c ∧ 0 ≤ placeF a c x y z ∧ placeF a c x y z < a * b * c := by
  have h1 : 0 ≤ y * a := Int.mul_nonneg y0 (by omega)
  have h2 : y * a + a ≤ a * b := by
    have := Int.mul_le_mul_of_nonneg_right (show y + 1 ≤ b by omega) (show (0 : Int) ≤ a by omega)
    rw [Int.add_mul, Int.one_mul, Int.mul_comm b a] at this
    exact this
  have h3 : 0 ≤ (y * a + x) * c := Int.mul_nonneg (by omega) (by omega)
  have h4 : (y * a + x) * c + c ≤ a * b * c := by
    have := Int.mul_le_mul_of_nonneg_right (show y * a + x + 1 ≤ a * b by omega) (show (0 : Int) ≤ c by omega)
    rw [Int.add_mul, Int.one_mul] at this
    exact this
  unfold placeF
  omega
/-- Is there such a sample? -/
def hasF (I : Im) (x y z : Int) : Bool := decide (0 ≤ x ∧ x < I.iw ∧ 0 ≤ y ∧ y < I.ih ∧ 0 ≤ z ∧ z < I.ic)
theorem hasF_iff {I : Im} {x y z : Int} : hasF I x y z = true ↔ (0 ≤ x ∧ x < I.iw ∧ 0 ≤ y ∧ y < I.ih ∧ 0 ≤ z ∧ z < I.ic) := by unfold hasF; exact decide_eq_true_iff
def imPlace (I : Im) (x y z : Int) : Int := placeF I.iw I.ic x y z
def setOk (I : Im) (x y z v : Int) : Bool := hasF I x y z && decide (v ≤ I.it)
def imSet (I : Im) (x y z v : Int) : Im := if setOk I x y z v = true then { I with il := I.il.set (imPlace I x y z).toNat v } else I
theorem imPlace_in {I : Im} (hI : ImOk I) {x y z : Int} (h : hasF I x y z = true) : 0 ≤ imPlace I x y z ∧ (imPlace I x y z).toNat < I.il.length ∧ ((imPlace I x y z).toNat : Int) = imPlace I x y z ∧ imPlace I x y z < 268435456 := by
  obtain ⟨_, _, _, _, _, _, _, hm, hl, _⟩ := hI
  obtain ⟨x0, x1, y0, y1, z0, z1⟩ := hasF_iff.1 h
  have := place_in x0 x1 y0 y1 z0 z1
  unfold imPlace
  omega
theorem imSet_ok {I : Im} (hI : ImOk I) {x y z v : Int} (v0 : 0 ≤ v) : ImOk (imSet I x y z v) := by
  unfold imSet
  split
  · rename_i h
    obtain ⟨a, b, c, d, e, f, g, hm, hl, hx⟩ := hI
    refine ⟨a, b, c, d, e, f, g, hm, by simpa using hl, fun q hq => ?_⟩
    unfold setOk at h
    rw [Bool.and_eq_true, decide_eq_true_iff] at h
    rcases List.mem_or_eq_of_mem_set hq with hq | rfl
    · exact hx q hq
    · exact ⟨v0, h.2⟩
  · exact hI
theorem imOk_len {I : Im} (h : ImOk I) : 1 ≤ I.il.length ∧ I.il.length ≤ 268435456 := by
  obtain ⟨a, b, c, d, e, _, _, hm, hl, _⟩ := h
  have := side_mul3 a b c d e
  omega
theorem allK_u16 {xs : List Int} (h : ∀ x ∈ xs, 0 ≤ x ∧ x ≤ 65535) {j : Nat} (hj : j < xs.length) : 0 ≤ xs.getD j 0 ∧ xs.getD j 0 ≤ 65535 := by
  rw [List.getD_eq_getElem?_getD, List.getElem?_eq_getElem hj]
  exact h _ (List.getElem_mem hj)
theorem imOk_at {I : Im} (h : ImOk I) {j : Nat} (hj : j < I.il.length) : 0 ≤ I.il.getD j 0 ∧ I.il.getD j 0 ≤ I.it ∧ I.il.getD j 0 ≤ 65535 := by
  obtain ⟨_, _, _, _, _, _, t1, _, _, hx⟩ := h
  rw [List.getD_eq_getElem?_getD, List.getElem?_eq_getElem hj]
  have := hx _ (List.getElem_mem hj)
  exact ⟨this.1, this.2, by have := this.2; exact Int.le_trans this t1⟩
end Go.Proofs.YtoppojilndnghaaDoor
