/- Parts, joined. -/
import Derived.Test.YtjmjgokgjeankaaDoorJ25
import Derived.Test.YtjmjgokgjeankaaDoorJ15
import Derived.Test.YtjmjgokgjeankaaDoorJ11
/- A row of raw weights, as two sides of a kernel's sum. -/
namespace Go.Proofs.YtjmjgokgjeankaaDoor
open Go.RowKit


theorem range_seg (F : Nat → Int) (c : Nat) : ((List.range c).map F).sum = segF F 0 c := by
  induction c with
  | zero => rfl
  | succ c ih =>
    rw [List.range_succ, List.map_append, List.sum_append, ih]
    show segF F 0 c + [F c].sum = segF F 0 c + F (0 + c)
    rw [List.sum_singleton, Nat.zero_add]
def reachK (f n m : Int) : Int := if f = 2 then 3 * fracQ n m else 2 * fracQ n m
/-- Of an even function, over the window: both sides. -/
theorem win_sides {f n m i : Int} (hf : f = 1 ∨ f = 2) (h : MayP f n m i) {k : Nat} (hk : (k : Int) = fracQ n m / (2 * m)) :
    ∃ (d : Int) (N N' : Nat), 0 ≤ d ∧ d ≤ 2 * m ∧ k ≤ N ∧ k ≤ N' ∧ N + N' = countR f n m i ∧ (∀ t : Nat, t < N → d + (t : Int) * (2 * m) < reachK f n m) ∧ (∀ t : Nat, t < N' → 2 * m - d + (t : Int) * (2 * m) < reachK f n m) ∧
      ∀ φ : Int → Int, (∀ p, φ (-p) = φ p) → segF (fun t => φ (fracP n m i (startR f n m i + (t : Int)))) 0 (countR f n m i) = segF (fun t => φ (d + (t : Int) * (2 * m))) 0 N + segF (fun t => φ (2 * m - d + (t : Int) * (2 * m))) 0 N' := by
  have W := row_win h
  have hn0 : f ≠ 0 := by omega
  obtain ⟨f0, f1, n0, n1, m0, m1, i0, i1⟩ := h
  have q0 : 2 * m ≤ fracQ n m := by unfold fracQ; split <;> omega
  have RQ : fracQ n m < reachK f n m := by unfold reachK; split <;> omega
  have hin : ∀ j, inW f n m i j = true ↔ -(reachK f n m) < fracP n m i j ∧ fracP n m i j < reachK f n m := by
    intro j
    rw [inW_far hn0]
    unfold reachK
    constructor <;> (rintro ⟨a, b⟩; exact ⟨b, a⟩)
  have hwin := fun j => win_iff m0 W j
  have e := Int.mul_ediv_add_emod (-(cenR n m i)) (2 * m)
  have d0 := Int.emod_nonneg (-(cenR n m i)) (show 2 * m ≠ 0 by omega)
  have d1 := Int.emod_lt_of_pos (-(cenR n m i)) (show 0 < 2 * m by omega)
  obtain ⟨j0, hj0⟩ : ∃ j0 : Int, j0 = -((-(cenR n m i)) / (2 * m)) := ⟨_, rfl⟩
  obtain ⟨d, hd⟩ : ∃ d, (-(cenR n m i)) % (2 * m) = d := ⟨_, rfl⟩
  rw [hd] at e d0 d1
  have ep : ∀ t : Int, fracP n m i (j0 + t) = d + t * (2 * m) := by
    intro t
    rw [fracP_cen, Int.mul_add, hj0, Int.mul_neg, Int.mul_comm (2 * m) t]
    omega
  obtain ⟨st, hst⟩ : ∃ st, startR f n m i = st := ⟨_, rfl⟩
  obtain ⟨c, hc⟩ : ∃ c, countR f n m i = c := ⟨_, rfl⟩
  rw [hst, hc] at hwin ⊢
  have kQ : (k : Int) * (2 * m) ≤ fracQ n m := by rw [hk]; exact Int.ediv_mul_le _ (by omega)
  have k1 : 1 ≤ k := by
    have : 1 ≤ fracQ n m / (2 * m) := (Int.le_ediv_iff_mul_le (by omega)).2 (by omega)
    omega
  have kH : 1 * (2 * m) ≤ (k : Int) * (2 * m) := Int.mul_le_mul_of_nonneg_right (by omega) (by omega)
  have ins : ∀ t : Int, (st ≤ j0 + t ∧ j0 + t < st + c) ↔ (-(reachK f n m) < d + t * (2 * m) ∧ d + t * (2 * m) < reachK f n m) := by
    intro t
    rw [← hwin, hin, ep]
  have z1 := (ins 0).2 ⟨by omega, by omega⟩
  have zk := (ins ((k : Int) - 1)).2 (by rw [Int.sub_mul]; omega)
  have zn := (ins (-(k : Int))).2 (by rw [Int.neg_mul]; omega)
  refine ⟨d, (st + c - j0).toNat, (j0 - st).toNat, d0, by omega, by omega, by omega, by omega, ?_, ?_, ?_⟩
  · intro t ht
    exact ((ins (t : Int)).1 ⟨by omega, by omega⟩).2
  · intro t ht
    have := ((ins (-1 - (t : Int))).1 ⟨by omega, by omega⟩).1
    rw [Int.sub_mul] at this
    omega
  · intro φ hφ
    have cut := segF_cut (fun t : Nat => φ (fracP n m i (st + (t : Int)))) 0 (j0 - st).toNat (st + c - j0).toNat
    rw [show (j0 - st).toNat + (st + c - j0).toNat = c by omega, Nat.zero_add] at cut
    rw [cut, Int.add_comm]
    have s1 : segF (fun t : Nat => φ (fracP n m i (st + (t : Int)))) (j0 - st).toNat (st + c - j0).toNat = segF (fun t : Nat => φ (d + (t : Int) * (2 * m))) 0 (st + c - j0).toNat := by
      have sh : ∀ l : Nat, segF (fun t : Nat => φ (fracP n m i (st + (t : Int)))) (j0 - st).toNat l = segF (fun t : Nat => φ (d + (t : Int) * (2 * m))) 0 l := by
        intro l
        induction l with
        | zero => rfl
        | succ l ih =>
          show segF _ (j0 - st).toNat l + φ (fracP n m i (st + (((j0 - st).toNat + l : Nat) : Int))) = segF _ 0 l + φ (d + ((0 + l : Nat) : Int) * (2 * m))
          rw [ih, show st + (((j0 - st).toNat + l : Nat) : Int) = j0 + (l : Int) by omega, ep, Nat.zero_add]
      exact sh _
    have s2 : segF (fun t : Nat => φ (fracP n m i (st + (t : Int)))) 0 (j0 - st).toNat = segF (fun t : Nat => φ (2 * m - d + (t : Int) * (2 * m))) 0 (j0 - st).toNat := by
      rw [← segF_back (fun t : Nat => φ (2 * m - d + (t : Int) * (2 * m)))]
      refine segF_congr _ _ 0 _ fun t _ ht => ?_
      show φ (fracP n m i (st + (t : Int))) = φ (2 * m - d + (((j0 - st).toNat - 1 - t : Nat) : Int) * (2 * m))
      rw [show st + (t : Int) = j0 + (-1 - (((j0 - st).toNat - 1 - t : Nat) : Int)) by omega, ep, ← hφ]
      congr 1
      rw [Int.sub_mul]
      omega
    rw [s1, s2]
/-- What a row's sums are at least, if its kernel is near a tent. -/
theorem row_low {f n m i M δ e b t : Int} (hf : f = 1 ∨ f = 2) (h : MayP f n m i) (g : Int → Int) (hg : ∀ p, g (-p) = g p) (hw : ∀ j, weightR f n m i j = g (fracP n m i j)) (K : Kern g (fracQ n m) (reachK f n m) M e b t) (e0 : 0 ≤ e) (b0 : 0 ≤ b) (t0 : 0 ≤ t) (hδ : e + b + t = δ) (m00 : 0 ≤ M) {k : Nat} (hk : (k : Int) = fracQ n m / (2 * m)) :
    M * (k : Int) - 2 * (((k : Int) + 1) * δ) ≤ (rowI f n m i).sum ∧ ((rowI f n m i).map absI).sum ≤ (rowI f n m i).sum + 4 * (((k : Int) + 1) * δ) := by
  obtain ⟨d, N, N', d0, dH, hN1, hN2, _, hR1, hR2, hs⟩ := win_sides hf h hk
  obtain ⟨f0, f1, n0, n1, m0, m1, i0, i1⟩ := h
  have q0 : 2 * m ≤ fracQ n m := by unfold fracQ; split <;> omega
  have R3 : reachK f n m ≤ 3 * fracQ n m := by unfold reachK; split <;> omega
  have S : (rowI f n m i).sum = segF (fun t => g (d + (t : Int) * (2 * m))) 0 N + segF (fun t => g (2 * m - d + (t : Int) * (2 * m))) 0 N' := by
    rw [← hs g hg]
    unfold rowI
    rw [range_seg]
    exact segF_congr _ _ 0 _ fun t _ _ => hw _
  have L := both_low K R3 (by omega) d0 dH hk hN1 hN2 hR1 hR2 e0 b0 t0 (by omega) m00
  rw [hδ] at L
  refine ⟨by rw [S]; exact L, ?_⟩
  have KM : Kern (fun p => min (g p) 0) (fracQ n m) (reachK f n m) 0 e b t := by
    refine ⟨fun p p0 p1 => ?_, fun p p0 p1 p2 => ?_, fun p p0 p1 => ?_⟩
    · have a := K.mid p p0 p1
      have c : 0 ≤ M * (fracQ n m - p) := Int.mul_nonneg m00 (by omega)
      have eq : 0 ≤ e * fracQ n m := Int.mul_nonneg e0 (by omega)
      rw [Int.zero_mul]
      by_cases s : g p ≤ 0
      · rw [Int.min_eq_left s]; omega
      · rw [Int.min_eq_right (by omega), Int.mul_zero]; omega
    · have := K.low p p0 p1 p2; show _ ≤ min (g p) 0; omega
    · have := K.far p p0 p1; show _ ≤ min (g p) 0; omega
  have LM := both_low KM R3 (by omega) d0 dH hk hN1 hN2 hR1 hR2 e0 b0 t0 (by omega) (Int.le_refl 0)
  rw [hδ, Int.zero_mul] at LM
  have A : ((rowI f n m i).map absI).sum = segF (fun t => absI (g (d + (t : Int) * (2 * m)))) 0 N + segF (fun t => absI (g (2 * m - d + (t : Int) * (2 * m)))) 0 N' := by
    rw [← hs (fun p => absI (g p)) (fun p => by show absI (g (-p)) = absI (g p); rw [hg])]
    unfold rowI
    rw [List.map_map, range_seg]
    exact segF_congr _ _ 0 _ fun t _ _ => by show absI (weightR _ _ _ _ _) = _; rw [hw]
  have ab : ∀ (F : Nat → Int) (a n : Nat), segF (fun t => absI (F t)) a n = segF F a n - 2 * segF (fun t => min (F t) 0) a n := by
    intro F a n
    induction n with
    | zero => rfl
    | succ n ih =>
      show segF (fun t => absI (F t)) a n + absI (F (a + n)) = segF F a n + F (a + n) - 2 * (segF (fun t => min (F t) 0) a n + min (F (a + n)) 0)
      rw [ih]
      unfold absI
      split <;> omega
  rw [A, S, ab, ab]
  omega
end Go.Proofs.YtjmjgokgjeankaaDoor

/- The cubic kernel is near a tent. Plain arithmetic. -/
namespace Go.Proofs.YtjmjgokgjeankaaDoor
open Go.RowKit


theorem sq_pos (x : Int) : 0 ≤ x * x := by
  by_cases h : 0 ≤ x
  · exact Int.mul_nonneg h h
  · have := Int.mul_nonneg (show 0 ≤ -x by omega) (show 0 ≤ -x by omega)
    rw [Int.neg_mul_neg] at this
    exact this
theorem div_near {X D B : Int} (hD : 0 < D) (hB : B ≤ 1099511627776) (h0 : -(B * D) ≤ X) (h1 : X ≤ B * D) : 2 * X - D ≤ 2 * (D * divF X D) ∧ 2 * (D * divF X D) ≤ 2 * X + D ∧ -(B + 1) ≤ divF X D ∧ divF X D ≤ B + 1 := by
  obtain ⟨n0, n1⟩ := near_err (X := X) hD
  have a : nearQ X D ≤ B + 1 := by
    by_cases g : nearQ X D ≤ B + 1
    · exact g
    · have := Int.mul_le_mul_of_nonneg_left (show B + 2 ≤ nearQ X D by omega) (show 0 ≤ D by omega)
      rw [Int.mul_add, Int.mul_comm D B] at this
      omega
  have b : -(B + 1) ≤ nearQ X D := by
    by_cases g : -(B + 1) ≤ nearQ X D
    · exact g
    · have := Int.mul_le_mul_of_nonneg_left (show nearQ X D ≤ -(B + 2) by omega) (show 0 ≤ D by omega)
      rw [Int.mul_neg, Int.mul_add, Int.mul_comm D B] at this
      omega
  rw [divF_of (by omega), holdI_in (by omega) (by omega)]
  omega
theorem low_key {p q : Int} (p0 : 0 ≤ p) (pq : p ≤ q) : 0 ≤ 25 * (lowK p q - 2 * (q * q * (q - p))) + 2 * (q * q * q) := by
  obtain ⟨u, rfl⟩ : ∃ u, q = p + u := ⟨q - p, by omega⟩
  have u0 : 0 ≤ u := by omega
  have s1 := sq_pos (4 * p - 19 * u)
  have s2 := sq_pos u
  have e : 8 * (2 * (p * p) - 19 * (p * u) + 56 * (u * u)) = (4 * p - 19 * u) * (4 * p - 19 * u) + 87 * (u * u) := by grind
  have h : 0 ≤ 2 * (p * p) - 19 * (p * u) + 56 * (u * u) := by omega
  have h2 := Int.mul_nonneg p0 h
  have h3 := Int.mul_nonneg u0 s2
  have e2 : 25 * (lowK p (p + u) - 2 * ((p + u) * (p + u) * (p + u - p))) + 2 * ((p + u) * (p + u) * (p + u)) = p * (2 * (p * p) - 19 * (p * u) + 56 * (u * u)) + 2 * (u * (u * u)) := by unfold lowK; grind
  omega
theorem high_key {p q : Int} (p0 : q ≤ p) (pq : p ≤ 2 * q) : -(3 * (q * q * q)) ≤ 20 * highK p q := by
  obtain ⟨u, rfl⟩ : ∃ u, p = q + u := ⟨p - q, by omega⟩
  obtain ⟨v, rfl⟩ : ∃ v, q = u + v := ⟨q - u, by omega⟩
  have u0 : 0 ≤ u := by omega
  have v0 : 0 ≤ v := by omega
  have s := sq_pos (2 * u - v)
  have a := Int.mul_nonneg (show 0 ≤ 59 * v + 15 * u by omega) s
  have b := Int.mul_nonneg u0 (Int.mul_nonneg u0 v0)
  have c := Int.mul_nonneg u0 (sq_pos v)
  have d := Int.mul_nonneg v0 (sq_pos v)
  have e : 20 * (20 * highK (u + v + u) (u + v) + 3 * ((u + v) * (u + v) * (u + v))) = (59 * v + 15 * u) * ((2 * u - v) * (2 * u - v)) + 4 * (u * (u * v)) + u * (v * v) + v * (v * v) := by unfold highK; grind
  omega
theorem low_in {p q : Int} (p0 : 0 ≤ p) (pq : p ≤ q) : -(10 * (q * q * q)) ≤ lowK p q ∧ lowK p q ≤ 10 * (q * q * q) := by
  obtain ⟨u, rfl⟩ : ∃ u, q = p + u := ⟨q - p, by omega⟩
  have u0 : 0 ≤ u := by omega
  have a := Int.mul_nonneg p0 (sq_pos p)
  have b := Int.mul_nonneg u0 (sq_pos p)
  have c := Int.mul_nonneg p0 (sq_pos u)
  have d := Int.mul_nonneg u0 (sq_pos u)
  have e1 : lowK p (p + u) + 10 * ((p + u) * (p + u) * (p + u)) = 10 * (p * (p * p)) + 31 * (u * (p * p)) + 36 * (p * (u * u)) + 12 * (u * (u * u)) := by unfold lowK; grind
  have e2 : 10 * ((p + u) * (p + u) * (p + u)) - lowK p (p + u) = 10 * (p * (p * p)) + 29 * (u * (p * p)) + 24 * (p * (u * u)) + 8 * (u * (u * u)) := by unfold lowK; grind
  omega
theorem high_in {p q : Int} (p0 : q ≤ p) : highK p q ≤ 0 := by
  have s := Int.mul_nonneg (show 0 ≤ p - q by omega) (sq_pos (2 * q - p))
  have e : highK p q = -((p - q) * ((2 * q - p) * (2 * q - p))) := by unfold highK; grind
  omega
theorem cubic_kern {q : Int} (q0 : 2 ≤ q) (q1 : q ≤ 131072) : Kern (fun p => keysF p q) q (2 * q) 1073741824 45000000 81000000 0 := by
  have c0 : 0 < q * q * q := Int.mul_pos (Int.mul_pos (by omega) (by omega)) (by omega)
  refine ⟨fun p p0 pq => ?_, fun p p0 p1 _ => ?_, fun p p0 p1 => by omega⟩
  · show 1073741824 * (q - p) - 45000000 * q ≤ q * keysF p q
    by_cases g : p = q
    · subst g
      rw [keys_one (by omega) (by omega), Int.sub_self, Int.mul_zero, Int.mul_zero]
      omega
    · have hk : keysF p q = divF (lowK p q * 1073741824) (2 * (q * q * q)) := by
        unfold keysF
        rw [if_pos (by omega), absI_pos p0, if_pos (by omega)]
      rw [hk]
      obtain ⟨l0, l1⟩ := low_in p0 pq
      have kk := low_key p0 pq
      obtain ⟨n0, _⟩ := div_near (X := lowK p q * 1073741824) (D := 2 * (q * q * q)) (B := 5368709120) (by omega) (by omega) (by omega) (by omega)
      generalize divF (lowK p q * 1073741824) (2 * (q * q * q)) = y at *
      have e1 : 2 * (2 * (q * q * q) * y) = 4 * (q * q * (q * y)) := by grind
      have e2 : q * q * (1073741824 * (q - p) - 45000000 * q) = 1073741824 * (q * q * (q - p)) - 45000000 * (q * q * q) := by grind
      have m : q * q * (1073741824 * (q - p) - 45000000 * q) ≤ q * q * (q * y) := by
        rw [e2]
        generalize q * q * (q * y) = Y at *
        generalize q * q * (q - p) = Z at *
        generalize q * q * q = C at *
        omega
      exact Int.le_of_mul_le_mul_left m (Int.mul_pos (by omega) (by omega))
  · show -81000000 ≤ keysF p q
    have hk : keysF p q = divF (highK p q * 1073741824) (2 * (q * q * q)) := by
      unfold keysF
      rw [if_pos (by omega), absI_pos (by omega), if_neg (by omega)]
    rw [hk]
    have h0 := high_key (p := p) (q := q) (by omega) (by omega)
    have h1 := high_in (p := p) (q := q) (by omega)
    obtain ⟨n0, _⟩ := div_near (X := highK p q * 1073741824) (D := 2 * (q * q * q)) (B := 5368709120) (by omega) (by omega) (by omega) (by omega)
    generalize divF (highK p q * 1073741824) (2 * (q * q * q)) = y at *
    by_cases g : -81000000 ≤ y
    · exact g
    · have m := Int.mul_le_mul_of_nonneg_left (show y ≤ -81000001 by omega) (show 0 ≤ q * q * q by omega)
      have e1 : 2 * (2 * (q * q * q) * y) = 4 * (q * q * q * y) := by grind
      rw [Int.mul_neg] at m
      generalize q * q * q * y = Y at *
      generalize q * q * q = C at *
      omega
theorem keys_small {p q : Int} (q0 : 2 ≤ q) (q1 : q ≤ 131072) : -1099511627776 ≤ keysF p q ∧ keysF p q ≤ 1099511627776 := by
  have c0 : 0 < q * q * q := Int.mul_pos (Int.mul_pos (by omega) (by omega)) (by omega)
  unfold keysF
  split
  · have a0 := absI0 p
    have a1 : absI p < 2 * q := by unfold absI; split <;> omega
    split
    · obtain ⟨l0, l1⟩ := low_in a0 (show absI p ≤ q by omega)
      obtain ⟨_, _, n2, n3⟩ := div_near (X := lowK (absI p) q * 1073741824) (D := 2 * (q * q * q)) (B := 5368709120) (by omega) (by omega) (by omega) (by omega)
      omega
    · have h0 := high_key (p := absI p) (q := q) (by omega) (by omega)
      have h1 := high_in (p := absI p) (q := q) (by omega)
      obtain ⟨_, _, n2, n3⟩ := div_near (X := highK (absI p) q * 1073741824) (D := 2 * (q * q * q)) (B := 5368709120) (by omega) (by omega) (by omega) (by omega)
      omega
  · omega
end Go.Proofs.YtjmjgokgjeankaaDoor
