/- Weights that come to one: plain arithmetic. -/
import Derived.Test.YtcfbpilhgnofpaaN
namespace Go.Proofs.Ytcfbpilhgnofpaa


/-- Sums that are held at each step. -/
def plusH (a b : Int) : Int := holdI (a + b)
def absH (x : Int) : Int := holdI (absI x)
def sumH (l : List Int) : Int := l.foldl plusH 0
def sizeH (l : List Int) : Int := l.foldl (fun s x => plusH s (absH x)) 0
theorem plusH_in (a b : Int) : -9223372036854775808 ≤ plusH a b ∧ plusH a b ≤ 9223372036854775807 := ⟨holdI0 _, holdI1 _⟩
theorem sumH_snoc (l : List Int) (x : Int) : sumH (l ++ [x]) = plusH (sumH l) x := by unfold sumH; rw [List.foldl_append]; rfl
theorem sizeH_snoc (l : List Int) (x : Int) : sizeH (l ++ [x]) = plusH (sizeH l) (absH x) := by unfold sizeH; rw [List.foldl_append]; rfl
theorem snoc_ind {P : List Int → Prop} (h0 : P []) (hs : ∀ l x, P l → P (l ++ [x])) (l : List Int) : P l := by
  have : ∀ n (l : List Int), l.length = n → P l := by
    intro n
    induction n with
    | zero => intro l hl; rw [List.eq_nil_of_length_eq_zero hl]; exact h0
    | succ n ih =>
      intro l hl
      have hne : l ≠ [] := by intro e; subst e; simp at hl
      rw [← List.dropLast_concat_getLast hne]
      exact hs _ _ (ih _ (by rw [List.length_dropLast, hl]; rfl))
  exact this l.length l rfl
theorem sumH_in (l : List Int) : -9223372036854775808 ≤ sumH l ∧ sumH l ≤ 9223372036854775807 := by
  refine snoc_ind (P := fun l => -9223372036854775808 ≤ sumH l ∧ sumH l ≤ 9223372036854775807) (by decide) ?_ l
  intro l x _; rw [sumH_snoc]; exact plusH_in _ _
theorem sizeH_in (l : List Int) : 0 ≤ sizeH l ∧ sizeH l ≤ 9223372036854775807 := by
  refine snoc_ind (P := fun l => 0 ≤ sizeH l ∧ sizeH l ≤ 9223372036854775807) (by decide) ?_ l
  intro l x ih; rw [sizeH_snoc]
  have : 0 ≤ absH x := by unfold absH holdI; have := absI0 x; split <;> (try split) <;> omega
  refine ⟨?_, (plusH_in _ _).2⟩
  unfold plusH holdI; split <;> (try split) <;> omega
/-- What may be apportioned. -/
def smallW (x : Int) : Prop := -1099511627776 ≤ x ∧ x ≤ 1099511627776
theorem sumH_small (l : List Int) (h : ∀ x ∈ l, smallW x) (hl : l.length ≤ 1048576) : sumH l = l.sum ∧ -((l.length : Int) * 1099511627776) ≤ l.sum ∧ l.sum ≤ (l.length : Int) * 1099511627776 := by
  revert h hl
  refine snoc_ind (P := fun l => (∀ x ∈ l, smallW x) → l.length ≤ 1048576 → sumH l = l.sum ∧ -((l.length : Int) * 1099511627776) ≤ l.sum ∧ l.sum ≤ (l.length : Int) * 1099511627776) ?_ ?_ l
  · intro _ _; exact ⟨rfl, by simp, by simp⟩
  · intro l x ih h hl
    rw [List.length_append] at hl
    simp at hl
    obtain ⟨e, a, b⟩ := ih (fun y hy => h y (by simp [hy])) (by omega)
    have hx := h x (by simp)
    unfold smallW at hx
    have e1 : ((l ++ [x]).length : Int) = (l.length : Int) + 1 := by simp
    have e2 : (l ++ [x]).sum = l.sum + x := by simp
    rw [sumH_snoc, e, e1, e2]
    unfold plusH
    rw [holdI_in (by omega) (by omega)]
    omega
/-- First each has so much, and a rest. -/
def quotW (s x : Int) : Int := floorF (x * 16384) s
def restW (s x : Int) : Int := x * 16384 - quotW s x * s
theorem quotW_at {s x : Int} (s0 : 0 < s) (h : smallW x) : quotW s x = x * 16384 / s ∧ restW s x = x * 16384 % s ∧ 0 ≤ restW s x ∧ restW s x < s ∧ -18014398509481984 ≤ quotW s x ∧ quotW s x ≤ 18014398509481984 := by
  unfold smallW at h
  have e := Int.mul_ediv_add_emod (x * 16384) s
  have r0 := Int.emod_nonneg (x * 16384) (show s ≠ 0 by omega)
  have r1 := Int.emod_lt_of_pos (x * 16384) s0
  have up : x * 16384 / s ≤ 18014398509481984 := by
    have : x * 16384 / s < 18014398509481985 := Int.ediv_lt_of_lt_mul s0 (by omega)
    omega
  have dn : -18014398509481984 ≤ x * 16384 / s := by
    apply Int.le_ediv_of_mul_le s0
    omega
  have q : quotW s x = x * 16384 / s := by
    unfold quotW
    rw [floorF_of (by omega)]
    unfold floorQ
    rw [if_neg (by omega), holdI_in (by omega) (by omega)]
  have r : restW s x = x * 16384 % s := by
    unfold restW
    rw [q, Int.mul_comm (x * 16384 / s) s]; omega
  exact ⟨q, r, by omega, by omega, by omega, by omega⟩
def quotsW (s : Int) (l : List Int) : List Int := l.map (quotW s)
def restsW (s : Int) (l : List Int) : List Int := l.map (restW s)
/-- The place of the greatest rest among the first ones, the one ahead of equal ones. -/
def bestTo (r : List Int) : Nat → Nat
  | 0 => 0
  | k + 1 => if r.getD (bestTo r k) 0 < r.getD k 0 then k else bestTo r k
theorem bestTo_lt (r : List Int) (k : Nat) : bestTo r k < max k 1 := by
  induction k with
  | zero => simp [bestTo]
  | succ k ih => unfold bestTo; split <;> omega
theorem bestTo_max (r : List Int) (k : Nat) (j : Nat) (h : j < k) : r.getD j 0 ≤ r.getD (bestTo r k) 0 := by
  induction k with
  | zero => omega
  | succ k ih =>
    unfold bestTo
    by_cases g : r.getD (bestTo r k) 0 < r.getD k 0
    · rw [if_pos g]
      by_cases e : j = k
      · subst e; exact Int.le_refl _
      · have := ih (by omega); omega
    · rw [if_neg g]
      by_cases e : j = k
      · subst e; omega
      · exact ih (by omega)
theorem bestTo_first (r : List Int) (k : Nat) (j : Nat) (h : j < bestTo r k) : r.getD j 0 < r.getD (bestTo r k) 0 := by
  induction k with
  | zero => simp [bestTo] at h
  | succ k ih =>
    unfold bestTo at h ⊢
    by_cases g : r.getD (bestTo r k) 0 < r.getD k 0
    · rw [if_pos g] at h ⊢
      have := bestTo_max r k j h
      omega
    · rw [if_neg g] at h ⊢
      exact ih h
/-- What lacks is given, one each. -/
def giveN (o r : List Int) : Nat → List Int × List Int
  | 0 => (o, r)
  | m + 1 => ((giveN o r m).1.set (bestTo (giveN o r m).2 (giveN o r m).2.length) ((giveN o r m).1.getD (bestTo (giveN o r m).2 (giveN o r m).2.length) 0 + 1), (giveN o r m).2.set (bestTo (giveN o r m).2 (giveN o r m).2.length) (-1))
theorem giveN_len (o r : List Int) (m : Nat) : (giveN o r m).1.length = o.length ∧ (giveN o r m).2.length = r.length := by
  induction m with
  | zero => exact ⟨rfl, rfl⟩
  | succ m ih => unfold giveN; simp only [List.length_set]; exact ih
def leftW (s : Int) (l : List Int) : Int := 16384 - (quotsW s l).sum
def appR (l : List Int) : List Int := (giveN (quotsW (sumH l) l) (restsW (sumH l) l) (leftW (sumH l) l).toNat).1
/-- Is something wrong with them? -/
def badW (l : List Int) : Prop := l.length < 1 ∨ 1048576 < l.length ∨ ∃ x ∈ l, ¬ smallW x
theorem getD_set (l : List Int) (i j : Nat) (x : Int) (hi : i < l.length) : (l.set i x).getD j 0 = if i = j then x else l.getD j 0 := by
  rw [List.getD_eq_getElem?_getD, List.getElem?_set]
  by_cases h : i = j
  · subst h; simp [hi]
  · simp [h, List.getD_eq_getElem?_getD]
theorem sum_set (l : List Int) (i : Nat) (x : Int) (hi : i < l.length) : (l.set i x).sum = l.sum - l.getD i 0 + x := by
  induction l generalizing i with
  | nil => simp at hi
  | cons a l ih =>
    cases i with
    | zero => simp; omega
    | succ i =>
      have := ih i (by simpa using hi)
      simp only [List.set_cons_succ, List.sum_cons, List.getD_cons_succ]
      omega
end Go.Proofs.Ytcfbpilhgnofpaa
