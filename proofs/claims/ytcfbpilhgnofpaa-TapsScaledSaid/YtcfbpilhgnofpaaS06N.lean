/- Weights that come to one: kernels that are the same from both ends. -/
import Derived.Test.YtcfbpilhgnofpaaS06I
import Derived.Test.YtcfbpilhgnofpaaS06G
namespace Go.Proofs.Ytcfbpilhgnofpaa
open Go.RowKit


def modL (l : List Int) : List Int := l.map fun x => x.tmod 1000
def evenK (l : List Int) (c : Int) : List Int := (modL l).reverse ++ [c.tmod 1000] ++ modL l
theorem modL_len (l : List Int) : (modL l).length = l.length := by unfold modL; simp
theorem evenK_len (l : List Int) (c : Int) : (evenK l c).length = 2 * l.length + 1 := by unfold evenK; simp [modL_len]; omega
/-- The same from both ends. -/
def Even (l : List Int) : Prop := ∀ j, j < l.length → l.getD j 0 = l.getD (l.length - 1 - j) 0
theorem even_of_reverse {l : List Int} (h : l.reverse = l) : Even l := by
  intro j hj
  have e : l.reverse[j]? = l[j]? := by rw [h]
  rw [List.getElem?_reverse hj] at e
  rw [List.getD_eq_getElem?_getD, List.getD_eq_getElem?_getD, e]
theorem evenK_even (l : List Int) (c : Int) : Even (evenK l c) := even_of_reverse (by unfold evenK; simp)
theorem even_map {l : List Int} (f : Int → Int) (h : Even l) : Even (l.map f) := by
  intro j hj
  rw [List.length_map] at hj ⊢
  rw [getD_map _ _ hj, getD_map _ _ (by omega), h j hj]
theorem modL_in (l : List Int) : ∀ x ∈ modL l, -999 ≤ x ∧ x ≤ 999 := by
  intro x hx
  obtain ⟨y, _, rfl⟩ := List.mem_map.1 hx
  have a := Int.lt_tmod_of_pos y (show (0 : Int) < 1000 by omega)
  have b := Int.tmod_lt_of_pos y (show (0 : Int) < 1000 by omega)
  show -999 ≤ y.tmod 1000 ∧ y.tmod 1000 ≤ 999
  omega
theorem evenK_in (l : List Int) (c : Int) : ∀ x ∈ evenK l c, -999 ≤ x ∧ x ≤ 999 := by
  intro x hx
  unfold evenK at hx
  simp only [List.mem_append, List.mem_reverse, List.mem_singleton] at hx
  rcases hx with (hx | rfl) | hx
  · exact modL_in l x hx
  · have a := Int.lt_tmod_of_pos c (show (0 : Int) < 1000 by omega)
    have b := Int.tmod_lt_of_pos c (show (0 : Int) < 1000 by omega)
    omega
  · exact modL_in l x hx
theorem sizeH_low (l : List Int) (h : ∀ x ∈ l, -999 ≤ x ∧ x ≤ 999) (hl : l.length ≤ 1000) : sizeH l = (l.map absI).sum ∧ sizeH l ≤ (l.length : Int) * 999 := by
  revert h hl
  refine snoc_ind (P := fun l => (∀ x ∈ l, -999 ≤ x ∧ x ≤ 999) → l.length ≤ 1000 → sizeH l = (l.map absI).sum ∧ sizeH l ≤ (l.length : Int) * 999) ?_ ?_ l
  · intro _ _; exact ⟨rfl, by decide⟩
  · intro l x ih h hl
    rw [List.length_append] at hl
    simp at hl
    obtain ⟨e, a⟩ := ih (fun y hy => h y (by simp [hy])) (by omega)
    have hx := h x (by simp)
    have s0 := (sizeH_in l).1
    have ax : absH x = absI x := by unfold absH; rw [holdI_in (by have := absI0 x; omega) (by unfold absI; split <;> omega)]
    have a1 : absI x ≤ 999 := by unfold absI; split <;> omega
    have a0 := absI0 x
    have e1 : ((l ++ [x]).length : Int) = (l.length : Int) + 1 := by simp
    have e2 : ((l ++ [x]).map absI).sum = (l.map absI).sum + absI x := by simp
    rw [sizeH_snoc, ax, e1, e2]
    unfold plusH
    rw [holdI_in (by omega) (by omega)]
    omega
/-- What comes of it. -/
theorem even_facts (l : List Int) (c : Int) (hl : l.length ≤ 40) :
    (userCode (evenK l c) = 7 ∧ userOut (evenK l c) = [] ∧ sizeH (evenK l c) = 0) ∨
    (userCode (evenK l c) = 0 ∧ (userOut (evenK l c)).length = 2 * l.length + 1 ∧ Even (userOut (evenK l c)) ∧ (∀ x ∈ userOut (evenK l c), smallW x)) := by
  have len := evenK_len l c
  have IN := evenK_in l c
  have EV := evenK_even l c
  generalize evenK l c = ks at *
  obtain ⟨e, u⟩ := sizeH_low ks IN (by omega)
  have s0 := (sizeH_in ks).1
  by_cases z : sizeH ks = 0
  · have nb : ¬ userB ks = true := fun q => by
      have := (userB_iff ks).1 q
      unfold UserP at this; omega
    refine Or.inl ⟨by unfold userCode; rw [if_neg nb], by unfold userOut; rw [if_neg nb], z⟩
  · have yb : userB ks = true := (userB_iff ks).2 ⟨by omega, by omega, by omega, by omega⟩
    refine Or.inr ⟨by unfold userCode; rw [if_pos yb], ?_, ?_, ?_⟩
    · unfold userOut userR; rw [if_pos yb, List.length_map, len]
    · unfold userOut userR; rw [if_pos yb]; exact even_map _ EV
    · intro x hx
      unfold userOut userR at hx
      rw [if_pos yb] at hx
      obtain ⟨y, hy, rfl⟩ := List.mem_map.1 hx
      have ay : absI y ≤ sizeH ks := by
        rw [e]
        exact (sum_ge (l := ks.map absI) (fun v hv => by obtain ⟨t, _, rfl⟩ := List.mem_map.1 hv; exact absI0 t)).2 _ (List.mem_map.2 ⟨y, hy, rfl⟩)
      have b := IN y hy
      have sp : 0 < sizeH ks := by omega
      obtain ⟨n0, n1⟩ := near_err6 (X := y * 1073741824) (d := sizeH ks) sp
      show smallW (divF (y * 1073741824) (sizeH ks))
      rw [divF_of (by omega)]
      have ay2 : -(sizeH ks) ≤ y ∧ y ≤ sizeH ks := by unfold absI at ay; split at ay <;> omega
      have q1 : nearQ (y * 1073741824) (sizeH ks) ≤ 1099511627776 := by
        by_cases g : nearQ (y * 1073741824) (sizeH ks) ≤ 1099511627776
        · exact g
        · exfalso
          have := Int.mul_le_mul_of_nonneg_left (show 1099511627777 ≤ nearQ (y * 1073741824) (sizeH ks) by omega) (show 0 ≤ sizeH ks by omega)
          omega
      have q0 : -1099511627776 ≤ nearQ (y * 1073741824) (sizeH ks) := by
        by_cases g : -1099511627776 ≤ nearQ (y * 1073741824) (sizeH ks)
        · exact g
        · exfalso
          have := Int.mul_le_mul_of_nonneg_left (show nearQ (y * 1073741824) (sizeH ks) ≤ -1099511627777 by omega) (show 0 ≤ sizeH ks by omega)
          rw [Int.mul_neg] at this
          omega
      rw [holdI_in (by omega) (by omega)]
      exact ⟨q0, q1⟩
theorem even_taps {l : List Int} (h : Even l) (hs : ∀ x ∈ l, smallW x) (h0 : 1 ≤ l.length) (h1 : l.length ≤ 1000) :
    (appCode l = 8 ∧ appOut l = []) ∨ (appCode l = 0 ∧ (appOut l).length = l.length ∧ ∀ j, j < l.length → (appOut l).getD j 0 - (appOut l).getD (l.length - 1 - j) 0 ≤ 1 ∧ -1 ≤ (appOut l).getD j 0 - (appOut l).getD (l.length - 1 - j) 0) := by
  have nb : ¬ badB l = true := fun q => by
    rcases (badB_iff l).1 q with q | q | q
    · omega
    · omega
    · exact q hs
  by_cases s0 : sumH l < 268435456
  · have c : appCode l = 8 := by unfold appCode; rw [if_neg nb, if_pos s0]
    exact Or.inl ⟨c, by unfold appOut; rw [if_neg (by omega)]⟩
  · have F : Fits l := ⟨h0, by omega, hs, by omega⟩
    have c := appCode_fits.2 F
    obtain ⟨len, _, each, _⟩ := app_facts F
    refine Or.inr ⟨c, by unfold appOut; rw [if_pos c]; exact len, fun j hj => ?_⟩
    unfold appOut
    rw [if_pos c]
    have e1 := each j hj
    have e2 := each (l.length - 1 - j) (by omega)
    rw [← h j hj] at e2
    rcases e1 with e1 | ⟨e1, _⟩ <;> rcases e2 with e2 | ⟨e2, _⟩ <;> omega
theorem modL_get (l : List Int) {j : Nat} (h : j < l.length) : (modL l).getD j 0 = (l.getD j 0).tmod 1000 := getD_map _ _ h
theorem modL_rev (l : List Int) {j : Nat} (h : j < l.length) : (modL l).reverse.getD j 0 = (l.getD (l.length - 1 - j) 0).tmod 1000 := by
  rw [List.getD_eq_getElem?_getD, List.getElem?_reverse (by rw [modL_len]; exact h), modL_len, ← List.getD_eq_getElem?_getD, modL_get l (by omega)]
end Go.Proofs.Ytcfbpilhgnofpaa
