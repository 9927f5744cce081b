/- Parts, joined. -/
import Derived.Test.YtjmjgokgjeankaaDoorJ26
import Derived.Test.YtjmjgokgjeankaaDoorJ13
import Derived.Test.YtjmjgokgjeankaaDoorJ09
/- What a row comes to: it can be apportioned, and its taps aren't great. -/
namespace Go.Proofs.YtjmjgokgjeankaaDoor
open Go.RowKit


theorem fits_of {l : List Int} (h0 : 1 ≤ l.length) (h1 : l.length ≤ 1048576) (hs : ∀ x ∈ l, smallW x) (h : 268435456 ≤ l.sum) : Fits l ∧ sumH l = l.sum := by
  have e := (sumH_small l hs h1).1
  exact ⟨⟨h0, h1, hs, by rw [e]; exact h⟩, e⟩
theorem sizeH_sum (l : List Int) (h : ∀ x ∈ l, -134217728 ≤ x ∧ x ≤ 134217728) (hl : l.length ≤ 1048576) : sizeH l = (l.map absI).sum ∧ 0 ≤ sizeH l ∧ sizeH l ≤ (l.length : Int) * 134217728 := by
  revert h hl
  refine snoc_ind (P := fun l => (∀ x ∈ l, -134217728 ≤ x ∧ x ≤ 134217728) → l.length ≤ 1048576 → sizeH l = (l.map absI).sum ∧ 0 ≤ sizeH l ∧ sizeH l ≤ (l.length : Int) * 134217728) ?_ ?_ l
  · intro _ _; exact ⟨rfl, by decide, by decide⟩
  · intro l x ih h hl
    rw [List.length_append] at hl
    simp at hl
    obtain ⟨e, a, b⟩ := ih (fun y hy => h y (by simp [hy])) (by omega)
    have hx := h x (by simp)
    have e1 : ((l ++ [x]).length : Int) = (l.length : Int) + 1 := by simp
    have x0 := absI0 x
    have x1 : absI x ≤ 134217728 := by unfold absI; split <;> omega
    have e3 : absH x = absI x := holdI_in (by omega) (by omega)
    rw [sizeH_snoc, e3, e1, List.map_append, List.sum_append, List.map_singleton, List.sum_singleton, ← e]
    unfold plusH
    rw [holdI_in (by omega) (by omega)]
    omega
theorem sum_le (F G : Int → Int) (l : List Int) (h : ∀ x ∈ l, F x ≤ G x) : (l.map F).sum ≤ (l.map G).sum := by
  induction l with
  | nil => exact Int.le_refl _
  | cons a l ih =>
    have h1 := h a (by simp)
    have h2 := ih (fun x hx => h x (by simp [hx]))
    simp only [List.map_cons, List.sum_cons]
    omega
theorem sum_mul (c : Int) (F : Int → Int) (l : List Int) : (l.map fun x => c * F x).sum = c * (l.map F).sum := by
  induction l with
  | nil => simp
  | cons a l ih => simp only [List.map_cons, List.sum_cons]; rw [ih, Int.mul_add]
theorem sum_one (c d : Int) (F : Int → Int) (l : List Int) : (l.map fun x => c * F x + d).sum = c * (l.map F).sum + (l.length : Int) * d := by
  induction l with
  | nil => simp
  | cons a l ih =>
    simp only [List.map_cons, List.sum_cons, List.length_cons]
    rw [ih, Int.mul_add, show ((l.length + 1 : Nat) : Int) = (l.length : Int) + 1 by omega, Int.add_mul]
    omega
/-- Two lists, number by number. -/
theorem sum_pair (F G : Int → Int) (l r : List Int) (hl : l.length = r.length) (h : ∀ j, j < l.length → F (l.getD j 0) ≤ G (r.getD j 0)) : (l.map F).sum ≤ (r.map G).sum := by
  induction l generalizing r with
  | nil =>
    have : r = [] := List.eq_nil_of_length_eq_zero (by rw [← hl]; rfl)
    subst this; exact Int.le_refl _
  | cons a l ih =>
    cases r with
    | nil => simp at hl
    | cons b r =>
      have h0 : F a ≤ G b := h 0 (by simp)
      have h1 := ih r (by simpa using hl) (fun j hj => h (j + 1) (by simpa using hj))
      simp only [List.map_cons, List.sum_cons]
      omega
theorem taps_size {l : List Int} (hF : Fits l) (he : sumH l = l.sum) {c : Int} (hc : (l.map absI).sum ≤ c * l.sum) : sizeH (appR l) ≤ 16384 * c + (l.length : Int) := by
  obtain ⟨e1, _, e3, _⟩ := app_facts hF
  have s0 := hF.s0
  rw [he] at s0 e3
  obtain ⟨s, hs⟩ : ∃ s, l.sum = s := ⟨_, rfl⟩
  rw [hs] at s0 e3 hc
  have each : ∀ j, j < (appR l).length → s * absI ((appR l).getD j 0) ≤ 16384 * absI (l.getD j 0) + s ∧ -134217728 ≤ (appR l).getD j 0 ∧ (appR l).getD j 0 ≤ 134217728 := by
    intro j hj
    have hj' : j < l.length := by rw [← e1]; exact hj
    have hx : smallW (l.getD j 0) := by
      rw [List.getD_eq_getElem?_getD, List.getElem?_eq_getElem hj']
      exact hF.small _ (List.getElem_mem hj')
    obtain ⟨q0, q1, r0, r1⟩ := quotW_small s0 hx
    have hr : restW s (l.getD j 0) = l.getD j 0 * 16384 - quotW s (l.getD j 0) * s := rfl
    have x := e3 j hj'
    rw [hr] at x
    generalize quotW s (l.getD j 0) = q at *
    generalize (appR l).getD j 0 = t at *
    generalize l.getD j 0 = w at *
    have bnd : -134217728 ≤ t ∧ t ≤ 134217728 := by rcases x with rfl | ⟨rfl, _⟩ <;> omega
    refine ⟨?_, bnd⟩
    have ww : -(16384 * absI w) ≤ w * 16384 ∧ w * 16384 ≤ 16384 * absI w := by unfold absI; split <;> omega
    have st : s * absI t = if t < 0 then -(t * s) else t * s := by
      unfold absI
      split
      · rw [Int.mul_neg, Int.mul_comm]
      · rw [Int.mul_comm]
    rw [st]
    rcases x with rfl | ⟨rfl, hp⟩
    · split <;> omega
    · rw [Int.add_mul, Int.one_mul]
      split <;> omega
  have small : ∀ x ∈ appR l, -134217728 ≤ x ∧ x ≤ 134217728 := by
    intro x hx
    obtain ⟨j, hj, rfl⟩ := List.getElem_of_mem hx
    have := (each j hj).2
    rw [List.getD_eq_getElem?_getD, List.getElem?_eq_getElem hj] at this
    exact this
  have S := (sizeH_sum (appR l) small (by rw [e1]; exact hF.n1)).1
  have P := sum_pair (fun t => s * absI t) (fun w => 16384 * absI w + s) (appR l) l e1 (fun j hj => (each j hj).1)
  rw [sum_mul, sum_one, ← S] at P
  have m : s * sizeH (appR l) ≤ s * (16384 * c + (l.length : Int)) := by
    have e5 : s * (16384 * c + (l.length : Int)) = 16384 * (c * s) + (l.length : Int) * s := by
      rw [Int.mul_add, Int.mul_left_comm, Int.mul_comm s c, Int.mul_comm s]
    omega
  exact Int.le_of_mul_le_mul_left m (by omega)
/-- A row by a kernel near a tent. -/
theorem kern_row {f n m i δ e b t : Int} (hf : f = 1 ∨ f = 2) (h : MayP f n m i) (hn : n ≤ 3000) (hm : m ≤ 60) (g : Int → Int) (hg : ∀ p, g (-p) = g p) (hw : ∀ j, weightR f n m i j = g (fracP n m i j)) (hs : ∀ p, -1099511627776 ≤ g p ∧ g p ≤ 1099511627776)
    (K : Kern g (fracQ n m) (reachK f n m) 1073741824 e b t) (e0 : 0 ≤ e) (b0 : 0 ≤ b) (t0 : 0 ≤ t) (hδ : e + b + t = δ) (hδ1 : δ ≤ 201326592) : Fits (rowI f n m i) ∧ sizeH (appR (rowI f n m i)) ≤ 131072 := by
  have h' := h
  obtain ⟨f0, f1, n0, n1, m0, m1, i0, i1⟩ := h'
  have q0 : 2 * m ≤ fracQ n m := by unfold fracQ; split <;> omega
  have q1 : fracQ n m ≤ 6000 := by unfold fracQ; split <;> omega
  obtain ⟨k, hk⟩ : ∃ k : Nat, (k : Int) = fracQ n m / (2 * m) := ⟨(fracQ n m / (2 * m)).toNat, by
    have := Int.ediv_nonneg (show 0 ≤ fracQ n m by omega) (show 0 ≤ 2 * m by omega)
    omega⟩
  have k1 : 1 ≤ k := by
    have : 1 ≤ fracQ n m / (2 * m) := (Int.le_ediv_iff_mul_le (by omega)).2 (by omega)
    omega
  have k2 : (k : Int) ≤ 3000 := by
    rw [hk]
    exact Int.ediv_le_of_le_mul (by omega) (by omega)
  obtain ⟨L, A⟩ := row_low hf h g hg hw K e0 b0 t0 hδ (by omega) hk
  have δ0 : 0 ≤ δ := by omega
  have kd : ((k : Int) + 1) * δ ≤ ((k : Int) + 1) * 201326592 := Int.mul_le_mul_of_nonneg_left hδ1 (by omega)
  have cnt : (countR f n m i : Int) ≤ 6 * ((k : Int) + 1) := by
    obtain ⟨d, N, N', d0, dH, _, _, hc, hR1, hR2, _⟩ := win_sides hf h hk
    have R3 : reachK f n m ≤ 3 * fracQ n m := by unfold reachK; split <;> omega
    have em := Int.mul_ediv_add_emod (fracQ n m) (2 * m)
    have er := Int.emod_lt_of_pos (fracQ n m) (show 0 < 2 * m by omega)
    rw [← hk] at em
    have one : ∀ (d : Int) (N : Nat), 0 ≤ d → (∀ t : Nat, t < N → d + (t : Int) * (2 * m) < reachK f n m) → (N : Int) ≤ 3 * ((k : Int) + 1) := by
      intro d N d0 hR
      by_cases g0 : N = 0
      · subst g0; omega
      · have := hR (N - 1) (by omega)
        by_cases g1 : (N : Int) ≤ 3 * ((k : Int) + 1)
        · exact g1
        · have mm := Int.mul_le_mul_of_nonneg_right (show 3 * ((k : Int) + 1) ≤ ((N - 1 : Nat) : Int) by omega) (show 0 ≤ 2 * m by omega)
          have e9 : 3 * ((k : Int) + 1) * (2 * m) = 3 * (2 * m * (k : Int)) + 3 * (2 * m) := by
            rw [Int.mul_assoc, Int.add_mul, Int.mul_comm (k : Int)]; omega
          omega
    have a := one d N d0 hR1
    have b := one (2 * m - d) N' (by omega) hR2
    omega
  obtain ⟨_, _, c0, c1⟩ := row_ends h
  have sm : ∀ x ∈ rowI f n m i, smallW x := by
    intro x hx
    unfold rowI at hx
    obtain ⟨j, _, rfl⟩ := List.mem_map.1 hx
    rw [hw]
    exact hs _
  have len := rowI_len f n m i
  obtain ⟨F, es⟩ := fits_of (l := rowI f n m i) (by omega) (by omega) sm (by omega)
  refine ⟨F, ?_⟩
  by_cases kk : k = 1
  · have s := taps_size F es (c := 7) (by subst kk; omega)
    rw [len] at s
    subst kk
    omega
  · have s := taps_size F es (c := 4) (by omega)
    rw [len] at s
    omega
theorem cubic_row {n m i : Int} (h : MayP 1 n m i) (hn : n ≤ 3000) (hm : m ≤ 60) : Fits (rowI 1 n m i) ∧ sizeH (appR (rowI 1 n m i)) ≤ 131072 := by
  have h' := h
  obtain ⟨f0, f1, n0, n1, m0, m1, i0, i1⟩ := h'
  obtain ⟨q0, q1⟩ := fracQ_in n0 n1 m0 m1
  have K := cubic_kern q0 q1
  refine kern_row (δ := 126000000) (e := 45000000) (b := 81000000) (t := 0) (Or.inl rfl) h hn hm (fun p => keysF p (fracQ n m)) (fun p => keysF_neg p _) (fun j => ?_) (fun p => keys_small q0 q1) ?_ (by omega) (by omega) (Int.le_refl 0) rfl (by omega)
  · show weightR 1 n m i j = keysF (fracP n m i j) (fracQ n m)
    unfold weightR; rw [if_neg (by omega), if_pos rfl]
  · have e : reachK 1 n m = 2 * fracQ n m := by unfold reachK; rw [if_neg (by omega)]
    rw [e]
    exact K
theorem box_seg (n m i st : Int) (c : Nat) : segF (fun t : Nat => weightR 0 n m i (st + (t : Int))) 0 c = sumB n m i st c := by
  induction c with
  | zero => rfl
  | succ c ih =>
    show segF _ 0 c + weightR 0 n m i (st + ((0 + c : Nat) : Int)) = sumB n m i st c + weightR 0 n m i (st + (c : Nat))
    rw [ih, Nat.zero_add]
theorem abs_noughts (l : List Int) (h : ∀ x ∈ l, 0 ≤ x) : (l.map absI).sum = l.sum := by
  induction l with
  | nil => rfl
  | cons a l ih =>
    simp only [List.map_cons, List.sum_cons]
    rw [ih (fun x hx => h x (by simp [hx])), absI_pos (h a (by simp))]
theorem box_row {n m i : Int} (h : MayP 0 n m i) (hn : n ≤ 3000) : Fits (rowI 0 n m i) ∧ sizeH (appR (rowI 0 n m i)) ≤ 131072 := by
  have W := row_win h
  have ⟨_, _, c0, c1⟩ := row_ends h
  obtain ⟨f0, f1, n0, n1, m0, m1, i0, i1⟩ := h
  obtain ⟨b0, b1, _, _⟩ := box_ends n0 m0 i0 i1 W
  have E := sumB_end n0 n1 m0 i0 i1 W
  have S : (rowI 0 n m i).sum = sumB n m i (startR 0 n m i) (countR 0 n m i) := by
    unfold rowI
    rw [range_seg, box_seg]
  have each : ∀ x ∈ rowI 0 n m i, 0 ≤ x ∧ x ≤ 1073741824 := by
    intro x hx
    unfold rowI at hx
    obtain ⟨t, ht, rfl⟩ := List.mem_map.1 hx
    have p := box_part n0 n1 m0 (W.2.2.1 t (List.mem_range.1 ht))
    exact ⟨p.2.2.1, p.2.2.2.1⟩
  have len := rowI_len 0 n m i
  obtain ⟨F, es⟩ := fits_of (l := rowI 0 n m i) (by omega) (by omega) (fun x hx => by have := each x hx; unfold smallW; omega) (by omega)
  refine ⟨F, ?_⟩
  have s := taps_size F es (c := 1) (by rw [abs_noughts _ (fun x hx => (each x hx).1)]; omega)
  rw [len] at s
  omega
theorem sizeTo_le {L : List (Int × List Int)} {B : Int} (B0 : 0 ≤ B) (h : ∀ j, j < L.length → sizeH (lnAt L j).2 ≤ B) (o : Nat) (ho : o ≤ L.length) : sizeTo L o ≤ B := by
  induction o with
  | zero => exact B0
  | succ o ih =>
    have := ih (by omega)
    have := h o (by omega)
    show max (sizeTo L o) (sizeH (lnAt L o).2) ≤ B
    omega
/-- A resize of such sides has no code, and no great size, if all its rows are so. -/
theorem resize_fine {f n m : Int} (f0 : 0 ≤ f) (f1 : f ≤ 2) (n0 : 1 ≤ n) (n1 : n ≤ 3000) (m0 : 1 ≤ m) (m1 : m ≤ 60) (h : ∀ i : Int, MayP f n m i → Fits (rowI f n m i) ∧ sizeH (appR (rowI f n m i)) ≤ 131072) : resCode f n m = 0 ∧ sizeF (linesTo f n m m.toNat) ≤ 131072 := by
  have M : ∀ j : Nat, j < m.toNat → MayP f n m j := fun j hj => ⟨f0, f1, n0, by omega, m0, by omega, by omega, by omega⟩
  constructor
  · unfold resCode
    rw [if_pos ((resB_iff f n m).2 ⟨f0, f1, ⟨n0, by omega⟩, m0, by omega⟩)]
    have : ∀ k : Nat, k ≤ m.toNat → firstCode f n m k = 0 := by
      intro k hk
      induction k with
      | zero => rfl
      | succ k ih =>
        have s : firstCode f n m (k + 1) = if firstCode f n m k = 0 then codeR f n m k else firstCode f n m k := rfl
        rw [s, if_pos (ih (by omega))]
        exact appCode_fits.2 (h k (M k (by omega))).1
    exact this _ (Nat.le_refl _)
  · unfold sizeF
    refine sizeTo_le (by omega) (fun j hj => ?_) _ (Nat.le_refl _)
    rw [linesTo_len] at hj
    rw [show lnAt (linesTo f n m m.toNat) j = lineR f n m j from lnAt_map _ hj]
    exact (h j (M j hj)).2
end Go.Proofs.YtjmjgokgjeankaaDoor
