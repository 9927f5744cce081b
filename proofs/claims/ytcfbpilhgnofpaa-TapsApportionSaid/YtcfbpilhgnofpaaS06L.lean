/- Weights that come to one: the law on weights that are all so many times as great. -/
import Derived.Test.YtcfbpilhgnofpaaS06G
namespace Go.Proofs.Ytcfbpilhgnofpaa
open Go.RowKit


/-- Rests that are so many times as great. -/
structure Times (k : Int) (r s : List Int) : Prop where
  len : s.length = r.length
  each : ∀ j, (0 ≤ r.getD j 0 ∧ s.getD j 0 = r.getD j 0 * k) ∨ (r.getD j 0 = -1 ∧ s.getD j 0 = -1)
theorem times_less {k : Int} (k0 : 1 ≤ k) {r s : List Int} (h : Times k r s) (i j : Nat) : r.getD i 0 < r.getD j 0 ↔ s.getD i 0 < s.getD j 0 := by
  have lt : ∀ a b : Int, a < b ↔ a * k < b * k := fun a b => ⟨fun g => Int.mul_lt_mul_of_pos_right g (by omega), fun g => Int.lt_of_mul_lt_mul_right g (by omega)⟩
  have nn : ∀ a : Int, 0 ≤ a → 0 ≤ a * k := fun a g => Int.mul_nonneg g (by omega)
  rcases h.each i with ⟨a0, a1⟩ | ⟨a0, a1⟩ <;> rcases h.each j with ⟨b0, b1⟩ | ⟨b0, b1⟩
  · rw [a1, b1]; exact lt _ _
  · have := nn _ a0; omega
  · have := nn _ b0; omega
  · omega
theorem times_best {k : Int} (k0 : 1 ≤ k) {r s : List Int} (h : Times k r s) (n : Nat) : bestTo s n = bestTo r n := by
  induction n with
  | zero => rfl
  | succ n ih =>
    unfold bestTo
    rw [ih]
    have := times_less k0 h (bestTo r n) n
    by_cases g : r.getD (bestTo r n) 0 < r.getD n 0
    · rw [if_pos g, if_pos (this.1 g)]
    · rw [if_neg g, if_neg (fun q => g (this.2 q))]
theorem times_give {k : Int} (k0 : 1 ≤ k) {r s : List Int} (q : List Int) (h : Times k r s) (m : Nat) : (giveN q s m).1 = (giveN q r m).1 ∧ Times k (giveN q r m).2 (giveN q s m).2 := by
  induction m with
  | zero => exact ⟨rfl, h⟩
  | succ m ih =>
    obtain ⟨e, t⟩ := ih
    have eb : bestTo (giveN q s m).2 (giveN q s m).2.length = bestTo (giveN q r m).2 (giveN q r m).2.length := by rw [t.len]; exact times_best k0 t _
    refine ⟨?_, ?_⟩
    · show (giveN q s m).1.set _ _ = (giveN q r m).1.set _ _
      rw [eb, e]
    · show Times k ((giveN q r m).2.set _ (-1)) ((giveN q s m).2.set _ (-1))
      rw [eb]
      generalize bestTo (giveN q r m).2 (giveN q r m).2.length = b
      refine ⟨by rw [List.length_set, List.length_set]; exact t.len, fun j => ?_⟩
      by_cases hb : b < (giveN q r m).2.length
      · rw [getD_set _ _ _ _ hb, getD_set _ _ _ _ (by rw [t.len]; exact hb)]
        by_cases e : b = j
        · rw [if_pos e, if_pos e]; exact Or.inr ⟨rfl, rfl⟩
        · rw [if_neg e, if_neg e]; exact t.each j
      · rw [List.set_eq_of_length_le (by omega), List.set_eq_of_length_le (by rw [t.len]; omega)]
        exact t.each j
def timesL (k : Int) (l : List Int) : List Int := l.map (· * k)
theorem timesL_snoc (k : Int) (l : List Int) (x : Int) : timesL k (l ++ [x]) = timesL k l ++ [x * k] := by unfold timesL; rw [List.map_append]; rfl
theorem timesL_len (k : Int) (l : List Int) : (timesL k l).length = l.length := by unfold timesL; simp
theorem timesL_sum (k : Int) (l : List Int) : (timesL k l).sum = l.sum * k := by
  induction l with
  | nil => simp [timesL]
  | cons a l ih =>
    have e : timesL k (a :: l) = a * k :: timesL k l := rfl
    rw [e, List.sum_cons, List.sum_cons, ih, Int.add_mul]
theorem scaled_small {k : Int} (k0 : 1 ≤ k) (k1 : k ≤ 50) {l : List Int} (h : ∀ x ∈ l, -4294967296 ≤ x ∧ x ≤ 4294967296) : (∀ x ∈ l, smallW x) ∧ ∀ x ∈ timesL k l, smallW x := by
  refine ⟨fun x hx => by have := h x hx; unfold smallW; omega, fun x hx => ?_⟩
  obtain ⟨y, hy, rfl⟩ := List.mem_map.1 hx
  have b := h y hy
  have a1 := Int.mul_le_mul_of_nonneg_right b.2 (show 0 ≤ k by omega)
  have a0 := Int.mul_le_mul_of_nonneg_right b.1 (show 0 ≤ k by omega)
  unfold smallW
  show -1099511627776 ≤ y * k ∧ y * k ≤ 1099511627776
  omega
theorem scaled_quot {s x k : Int} (s0 : 0 < s) (k0 : 1 ≤ k) (h : smallW x) (h2 : smallW (x * k)) : quotW (s * k) (x * k) = quotW s x ∧ restW (s * k) (x * k) = restW s x * k := by
  have sk : 0 < s * k := Int.mul_pos s0 (by omega)
  obtain ⟨q1, _⟩ := quotW_at s0 h
  obtain ⟨q2, _⟩ := quotW_at sk h2
  have e : quotW (s * k) (x * k) = quotW s x := by
    rw [q1, q2, show x * k * 16384 = x * 16384 * k by rw [Int.mul_assoc, Int.mul_comm k 16384, ← Int.mul_assoc]]
    exact Int.mul_ediv_mul_of_pos_left _ _ (by omega)
  refine ⟨e, ?_⟩
  unfold restW
  rw [e, Int.sub_mul, Int.mul_assoc (quotW s x) s k, show x * k * 16384 = x * 16384 * k by rw [Int.mul_assoc, Int.mul_comm k 16384, ← Int.mul_assoc]]
theorem scaled_app {k : Int} (k0 : 1 ≤ k) (k1 : k ≤ 50) {l : List Int} (h : ∀ x ∈ l, -4294967296 ≤ x ∧ x ≤ 4294967296) (hl : l.length ≤ 100) :
    (appCode l = 7 ∧ appCode (timesL k l) = 7) ∨ appCode l = 8 ∨ (appCode l = 0 ∧ appCode (timesL k l) = 0 ∧ appOut (timesL k l) = appOut l) := by
  obtain ⟨sm, sm2⟩ := scaled_small k0 k1 h
  by_cases g : l.length < 1
  · refine Or.inl ⟨?_, ?_⟩
    · unfold appCode; rw [if_pos ((badB_iff l).2 (Or.inl g))]
    · unfold appCode; rw [if_pos ((badB_iff _).2 (Or.inl (by rw [timesL_len]; exact g)))]
  · have nb : ¬ badB l = true := fun q => by
      rcases (badB_iff l).1 q with q | q | q
      · exact g q
      · omega
      · exact q sm
    by_cases s0 : sumH l < 268435456
    · exact Or.inr (Or.inl (by unfold appCode; rw [if_neg nb, if_pos s0]))
    · have F : Fits l := ⟨by omega, by omega, sm, by omega⟩
      obtain ⟨e1, _⟩ := sumH_small l sm (by omega)
      obtain ⟨e2, _⟩ := sumH_small (timesL k l) sm2 (by rw [timesL_len]; omega)
      have es : sumH (timesL k l) = sumH l * k := by rw [e2, timesL_sum, e1]
      have up : sumH l * 1 ≤ sumH l * k := Int.mul_le_mul_of_nonneg_left k0 (by omega)
      have F2 : Fits (timesL k l) := ⟨by rw [timesL_len]; omega, by rw [timesL_len]; omega, sm2, by omega⟩
      have c1 := appCode_fits.2 F
      have c2 := appCode_fits.2 F2
      refine Or.inr (Or.inr ⟨c1, c2, ?_⟩)
      unfold appOut
      rw [if_pos c1, if_pos c2]
      have each : ∀ j, j < l.length → quotW (sumH l * k) (l.getD j 0 * k) = quotW (sumH l) (l.getD j 0) ∧ restW (sumH l * k) (l.getD j 0 * k) = restW (sumH l) (l.getD j 0) * k := fun j hj =>
        scaled_quot (by omega) k0 (mem_getD sm hj) (by
          have := mem_getD sm2 (show j < (timesL k l).length by rw [timesL_len]; exact hj)
          unfold timesL at this
          rw [getD_map _ _ hj] at this
          exact this)
      have eq : quotsW (sumH l * k) (timesL k l) = quotsW (sumH l) l := by
        unfold quotsW timesL
        rw [List.map_map]
        refine List.map_congr_left fun x hx => ?_
        obtain ⟨j, hj, rfl⟩ := List.getElem_of_mem hx
        have := (each j hj).1
        rw [List.getD_eq_getElem?_getD, List.getElem?_eq_getElem hj] at this
        exact this
      have er : Times k (restsW (sumH l) l) (restsW (sumH l * k) (timesL k l)) := by
        refine ⟨by unfold restsW timesL; simp, fun j => ?_⟩
        by_cases hj : j < l.length
        · refine Or.inl ?_
          unfold restsW
          rw [getD_map _ _ hj, getD_map _ _ (by rw [timesL_len]; exact hj)]
          unfold timesL
          rw [getD_map _ _ hj]
          obtain ⟨_, _, r0, _⟩ := quotW_at (s := sumH l) (by omega) (mem_getD sm hj)
          exact ⟨r0, (each j hj).2⟩
        · refine Or.inl ?_
          unfold restsW
          rw [List.getD_eq_getElem?_getD, List.getElem?_eq_none (by simp; omega), List.getD_eq_getElem?_getD, List.getElem?_eq_none (by simp [timesL]; omega)]
          simp
      unfold appR
      rw [es, eq]
      unfold leftW
      rw [eq]
      exact (times_give k0 _ er _).1
end Go.Proofs.Ytcfbpilhgnofpaa
