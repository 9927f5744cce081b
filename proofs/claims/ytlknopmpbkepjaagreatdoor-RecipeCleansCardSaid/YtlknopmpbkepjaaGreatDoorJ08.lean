/- Parts, joined. -/
import Derived.Test.YtlknopmpbkepjaaGreatDoorJ01
import Derived.Test.YtlknopmpbkepjaaGreatDoorJ02
import Derived.Test.YtlknopmpbkepjaaGreatDoorJ07
import Derived.IntWalk
import Derived.Deep.LoopGhost
import Derived.ProofKit
import Derived.OpenShut
import Derived.Deep.RegionHeld3
/- Weights that come to one: the document's small calls. -/
namespace Go.Proofs.YtlknopmpbkepjaaGreatDoor
open Go.RowKit

/-- Numbers that are int64's. -/
def All64 (xs : List Int) : Prop := ∀ j, j < xs.length → -9223372036854775808 ≤ xs.getD j 0 ∧ xs.getD j 0 ≤ 9223372036854775807
end Go.Proofs.YtlknopmpbkepjaaGreatDoor

/- Lines of a table: plain lists. No number of the program stands in it. -/
namespace Go.Proofs.YtlknopmpbkepjaaGreatDoor


/-- An output sample's line: its first source sample, and its taps. -/
def lnAt (L : List (Int × List Int)) (j : Nat) : Int × List Int := L.getD j (0, [])
def LineOk (x : Int × List Int) : Prop := -1099511627776 ≤ x.1 ∧ x.1 ≤ 1099511627776 ∧ 1 ≤ x.2.length ∧ x.2.length ≤ 1048576 ∧ All64 x.2
def LinesOk (L : List (Int × List Int)) : Prop := ∀ j, j < L.length → LineOk (lnAt L j)
theorem lnAt_get {L : List (Int × List Int)} {j : Nat} (h : j < L.length) : lnAt L j = L[j] := by
  unfold lnAt; rw [List.getD_eq_getElem?_getD, List.getElem?_eq_getElem h]; rfl
theorem lnAt_old {L : List (Int × List Int)} (x : Int × List Int) {j : Nat} (h : j < L.length) : lnAt (L ++ [x]) j = lnAt L j := by
  unfold lnAt; rw [List.getD_eq_getElem?_getD, List.getD_eq_getElem?_getD, List.getElem?_append_left h]
theorem lnAt_new (L : List (Int × List Int)) (x : Int × List Int) : lnAt (L ++ [x]) L.length = x := by
  unfold lnAt; rw [List.getD_eq_getElem?_getD, List.getElem?_append_right (Nat.le_refl _), Nat.sub_self]; rfl
theorem lnAt_map (f : Nat → Int × List Int) {m j : Nat} (h : j < m) : lnAt ((List.range m).map f) j = f j := by
  rw [lnAt_get (by rw [List.length_map, List.length_range]; exact h)]
  rw [List.getElem_map, List.getElem_range]
/-! ### The most taps, the greatest size -/
def mostTo (L : List (Int × List Int)) : Nat → Int
  | 0 => 0
  | o + 1 => max (mostTo L o) ((lnAt L o).2.length : Int)
def mostF (L : List (Int × List Int)) : Int := mostTo L L.length
def sizeTo (L : List (Int × List Int)) : Nat → Int
  | 0 => 0
  | o + 1 => max (sizeTo L o) (sizeH (lnAt L o).2)
def sizeF (L : List (Int × List Int)) : Int := sizeTo L L.length
end Go.Proofs.YtlknopmpbkepjaaGreatDoor

/- Weights that come to one: what is given, and to whom. -/
namespace Go.Proofs.YtlknopmpbkepjaaGreatDoor


def posSum (l : List Int) : Int := (l.map fun x => max x 0).sum
theorem posSum_none (l : List Int) (h : ∀ j, j < l.length → l.getD j 0 ≤ 0) : posSum l = 0 := by
  induction l with
  | nil => rfl
  | cons a l ih =>
    have a0 : a ≤ 0 := by have := h 0 (by simp); simpa using this
    have := ih (fun j hj => by have := h (j + 1) (by simpa using hj); simpa using this)
    unfold posSum at *
    simp only [List.map_cons, List.sum_cons]
    omega
theorem posSum_all (l : List Int) (h : ∀ j, j < l.length → 0 ≤ l.getD j 0) : posSum l = l.sum := by
  induction l with
  | nil => rfl
  | cons a l ih =>
    have a0 : 0 ≤ a := by have := h 0 (by simp); simpa using this
    have := ih (fun j hj => by have := h (j + 1) (by simpa using hj); simpa using this)
    unfold posSum at *
    simp only [List.map_cons, List.sum_cons]
    omega
theorem posSum_set (l : List Int) (i : Nat) (x : Int) (hi : i < l.length) : posSum (l.set i x) = posSum l - max (l.getD i 0) 0 + max x 0 := by
  unfold posSum
  rw [List.map_set, sum_set _ _ _ (by simpa using hi)]
  rw [List.getD_eq_getElem?_getD, List.getElem?_map, List.getD_eq_getElem?_getD, List.getElem?_eq_getElem hi]
  rfl
structure Setting (s : Int) (q r : List Int) (n lf : Nat) : Prop where
  n0 : 1 ≤ n
  s0 : 0 < s
  ql : q.length = n
  rl : r.length = n
  rin : ∀ j, j < n → 0 ≤ r.getD j 0 ∧ r.getD j 0 < s
  rsum : r.sum = (lf : Int) * s
structure Given (s : Int) (q r : List Int) (n lf m : Nat) : Prop where
  each : ∀ j, j < n → ((giveN q r m).2.getD j 0 = r.getD j 0 ∧ (giveN q r m).1.getD j 0 = q.getD j 0) ∨ ((giveN q r m).2.getD j 0 = -1 ∧ (giveN q r m).1.getD j 0 = q.getD j 0 + 1 ∧ 0 < r.getD j 0)
  rests : ((lf : Int) - m) * s ≤ posSum (giveN q r m).2
  sum : (giveN q r m).1.sum = q.sum + m
  order : ∀ i k, i < n → k < n → (giveN q r m).2.getD k 0 = -1 → (giveN q r m).2.getD i 0 ≠ -1 → r.getD i 0 ≤ r.getD k 0
theorem give_inv {s : Int} {q r : List Int} {n lf : Nat} (h : Setting s q r n lf) (m : Nat) (hm : m ≤ lf) : Given s q r n lf m := by
  induction m with
  | zero =>
    refine ⟨fun j _ => Or.inl ⟨rfl, rfl⟩, ?_, by simp [giveN], ?_⟩
    · rw [show (giveN q r 0).2 = r from rfl, posSum_all r (fun j hj => (h.rin j (by rw [← h.rl]; exact hj)).1), h.rsum]
      simp
    · intro i k hi hk hc _
      have := (h.rin k hk).1
      rw [show (giveN q r 0).2 = r from rfl] at hc
      omega
  | succ m ih =>
    have I := ih (by omega)
    obtain ⟨l1, l2⟩ := giveN_len q r m
    have e1 : (giveN q r (m + 1)).1 = (giveN q r m).1.set (bestTo (giveN q r m).2 (giveN q r m).2.length) ((giveN q r m).1.getD (bestTo (giveN q r m).2 (giveN q r m).2.length) 0 + 1) := rfl
    have e2 : (giveN q r (m + 1)).2 = (giveN q r m).2.set (bestTo (giveN q r m).2 (giveN q r m).2.length) (-1) := rfl
    obtain ⟨each, rests, sum, order⟩ := I
    rw [h.ql] at l1
    rw [h.rl] at l2
    have bl := bestTo_lt (giveN q r m).2 (giveN q r m).2.length
    have bm := bestTo_max (giveN q r m).2 (giveN q r m).2.length
    rw [l2] at bl bm e1 e2
    generalize (giveN q r m).1 = O at *
    generalize (giveN q r m).2 = R at *
    obtain ⟨b, hb⟩ : ∃ b, bestTo R n = b := ⟨_, rfl⟩
    rw [hb] at bl bm e1 e2
    have n0 := h.n0
    have b1 : b < n := by omega
    -- the greatest rest is above nought
    have pos : 0 < R.getD b 0 := by
      by_cases g : 0 < R.getD b 0
      · exact g
      · exfalso
        have z := posSum_none R (fun j hj => by have := bm j (by omega); omega)
        have s0 := h.s0
        have : s ≤ ((lf : Int) - m) * s := by
          have := Int.mul_le_mul_of_nonneg_right (show (1 : Int) ≤ (lf : Int) - m by omega) (show 0 ≤ s by omega)
          omega
        omega
    have eb := each b b1
    have ub : R.getD b 0 = r.getD b 0 ∧ O.getD b 0 = q.getD b 0 := by
      rcases eb with g | g
      · exact g
      · omega
    have g2 : ∀ j, (giveN q r (m + 1)).2.getD j 0 = if b = j then -1 else R.getD j 0 := fun j => by rw [e2]; exact getD_set R b j (-1) (by omega)
    have g1 : ∀ j, (giveN q r (m + 1)).1.getD j 0 = if b = j then O.getD b 0 + 1 else O.getD j 0 := fun j => by rw [e1]; exact getD_set O b j _ (by omega)
    refine ⟨?_, ?_, ?_, ?_⟩
    · intro j hj
      rw [g1, g2]
      by_cases e : b = j
      · subst e
        rw [if_pos rfl, if_pos rfl]
        exact Or.inr ⟨rfl, by omega, by omega⟩
      · rw [if_neg e, if_neg e]
        exact each j hj
    · rw [e2, posSum_set R b (-1) (by omega)]
      have := (h.rin b b1).2
      have e : ((lf : Int) - (m + 1 : Nat)) * s = ((lf : Int) - m) * s - s := by
        rw [show (lf : Int) - (m + 1 : Nat) = ((lf : Int) - m) - 1 by omega, Int.sub_mul ((lf : Int) - m) 1, Int.one_mul]
      rw [e]
      omega
    · rw [e1, sum_set O b _ (by omega), sum]
      omega
    · intro i k hi hk hc hu
      rw [g2] at hc hu
      by_cases ei : b = i
      · rw [if_pos ei] at hu; omega
      · rw [if_neg ei] at hu
        have vi : R.getD i 0 = r.getD i 0 := by
          rcases each i hi with g | g
          · exact g.1
          · omega
        by_cases ek : b = k
        · subst ek
          have := bm i (by omega)
          omega
        · rw [if_neg ek] at hc
          exact order i k hi hk hc hu
theorem getD_map (f : Int → Int) (l : List Int) {j : Nat} (h : j < l.length) : (l.map f).getD j 0 = f (l.getD j 0) := by
  rw [List.getD_eq_getElem?_getD, List.getElem?_map, List.getD_eq_getElem?_getD, List.getElem?_eq_getElem h]; rfl
theorem mem_getD {l : List Int} {P : Int → Prop} (h : ∀ x ∈ l, P x) {j : Nat} (hj : j < l.length) : P (l.getD j 0) := by
  rw [List.getD_eq_getElem?_getD, List.getElem?_eq_getElem hj]
  exact h _ (List.getElem_mem hj)
theorem getD_mem {l : List Int} {P : Int → Prop} (h : ∀ j, j < l.length → P (l.getD j 0)) : ∀ x ∈ l, P x := by
  intro x hx
  obtain ⟨j, hj, rfl⟩ := List.getElem_of_mem hx
  have := h j hj
  rw [List.getD_eq_getElem?_getD, List.getElem?_eq_getElem hj] at this
  exact this
/-- Rests come to what lacks. -/
theorem rests_sum (s : Int) (l : List Int) : (restsW s l).sum = l.sum * 16384 - (quotsW s l).sum * s := by
  induction l with
  | nil => simp [restsW, quotsW]
  | cons a l ih =>
    unfold restsW quotsW at *
    simp only [List.map_cons, List.sum_cons]
    rw [ih]
    unfold restW
    rw [Int.add_mul, Int.add_mul]
    omega
structure Fits (l : List Int) : Prop where
  n0 : 1 ≤ l.length
  n1 : l.length ≤ 1048576
  small : ∀ x ∈ l, smallW x
  s0 : 268435456 ≤ sumH l
theorem fits_setting {l : List Int} (h : Fits l) : Setting (sumH l) (quotsW (sumH l) l) (restsW (sumH l) l) l.length (leftW (sumH l) l).toNat ∧ 0 ≤ leftW (sumH l) l ∧ leftW (sumH l) l < l.length := by
  obtain ⟨n0, n1, sm, s0⟩ := h
  obtain ⟨es, e0, e1⟩ := sumH_small l sm n1
  have rin : ∀ j, j < l.length → 0 ≤ (restsW (sumH l) l).getD j 0 ∧ (restsW (sumH l) l).getD j 0 < sumH l := by
    intro j hj
    unfold restsW
    rw [getD_map _ _ hj]
    obtain ⟨_, _, a, b, _⟩ := quotW_at (s := sumH l) (by omega) (mem_getD sm hj)
    exact ⟨a, b⟩
  have rs : (restsW (sumH l) l).sum = leftW (sumH l) l * sumH l := by
    rw [rests_sum]
    unfold leftW
    rw [Int.sub_mul, es]
    omega
  have rl : (restsW (sumH l) l).length = l.length := by unfold restsW; simp
  have up : ∀ (r : List Int), (∀ j, j < r.length → 0 ≤ r.getD j 0 ∧ r.getD j 0 < sumH l) → 0 ≤ r.sum ∧ (1 ≤ r.length → r.sum < (r.length : Int) * sumH l) := by
    intro r
    induction r with
    | nil => intro _; simp
    | cons a r ih =>
      intro hr
      have a0 := hr 0 (by simp)
      simp only [List.getD_cons_zero] at a0
      obtain ⟨c0, c1⟩ := ih (fun j hj => by have := hr (j + 1) (by simpa using hj); simpa using this)
      simp only [List.sum_cons, List.length_cons]
      refine ⟨by omega, fun _ => ?_⟩
      rw [show ((r.length + 1 : Nat) : Int) = (r.length : Int) + 1 by omega, Int.add_mul, Int.one_mul]
      rcases Nat.eq_zero_or_pos r.length with z | z
      · have : r = [] := List.eq_nil_of_length_eq_zero z
        subst this; simp; omega
      · have := c1 z; omega
  obtain ⟨u0, u1⟩ := up (restsW (sumH l) l) (by rw [rl]; exact rin)
  rw [rs] at u0 u1
  rw [rl] at u1
  have l0 : 0 ≤ leftW (sumH l) l := by
    by_cases g : 0 ≤ leftW (sumH l) l
    · exact g
    · exfalso
      have := Int.mul_le_mul_of_nonneg_right (show leftW (sumH l) l ≤ -1 by omega) (show 0 ≤ sumH l by omega)
      omega
  refine ⟨⟨n0, by omega, by unfold quotsW; simp, rl, rin, ?_⟩, l0, ?_⟩
  · rw [rs, show (((leftW (sumH l) l).toNat : Nat) : Int) = leftW (sumH l) l by omega]
  · by_cases g : leftW (sumH l) l < l.length
    · exact g
    · exfalso
      have := Int.mul_le_mul_of_nonneg_right (show (l.length : Int) ≤ leftW (sumH l) l by omega) (show 0 ≤ sumH l by omega)
      have := u1 n0
      omega
/-- What taps are. -/
theorem app_facts {l : List Int} (h : Fits l) :
    (appR l).length = l.length ∧ (appR l).sum = 16384 ∧
    (∀ j, j < l.length → (appR l).getD j 0 = quotW (sumH l) (l.getD j 0) ∨ ((appR l).getD j 0 = quotW (sumH l) (l.getD j 0) + 1 ∧ 0 < restW (sumH l) (l.getD j 0))) ∧
    (∀ i k, i < l.length → k < l.length → l.getD k 0 < l.getD i 0 → (appR l).getD k 0 ≤ (appR l).getD i 0) := by
  obtain ⟨S, l0, l1⟩ := fits_setting h
  have G := give_inv S _ (Nat.le_refl _)
  obtain ⟨n0, n1, sm, s0⟩ := h
  obtain ⟨each, _, sum, order⟩ := G
  obtain ⟨la, lb⟩ := giveN_len (quotsW (sumH l) l) (restsW (sumH l) l) (leftW (sumH l) l).toNat
  have eq : ∀ j, j < l.length → (quotsW (sumH l) l).getD j 0 = quotW (sumH l) (l.getD j 0) := fun j hj => getD_map _ _ hj
  have er : ∀ j, j < l.length → (restsW (sumH l) l).getD j 0 = restW (sumH l) (l.getD j 0) := fun j hj => getD_map _ _ hj
  have len : (appR l).length = l.length := by unfold appR; rw [la]; unfold quotsW; simp
  refine ⟨len, ?_, ?_, ?_⟩
  · have : leftW (sumH l) l = 16384 - (quotsW (sumH l) l).sum := rfl
    unfold appR; rw [sum]; omega
  · intro j hj
    have := each j hj
    rw [eq j hj, er j hj] at this
    rcases this with g | g
    · exact Or.inl g.2
    · exact Or.inr ⟨g.2.1, g.2.2⟩
  · intro i k hi hk hlt
    obtain ⟨qi, ri, ri0, ri1, _⟩ := quotW_at (s := sumH l) (by omega) (mem_getD sm hi)
    obtain ⟨qk, rk, rk0, rk1, _⟩ := quotW_at (s := sumH l) (by omega) (mem_getD sm hk)
    have E1 := each i hi
    have E2 := each k hk
    have O := order i k hi hk
    rw [eq i hi, er i hi] at E1
    rw [eq k hk, er k hk] at E2
    rw [er i hi, er k hk] at O
    have mono : quotW (sumH l) (l.getD k 0) ≤ quotW (sumH l) (l.getD i 0) := by
      rw [qi, qk]; exact Int.ediv_le_ediv (by omega) (by omega)
    unfold appR
    generalize (giveN (quotsW (sumH l) l) (restsW (sumH l) l) (leftW (sumH l) l).toNat).1.getD i 0 = Ti at *
    generalize (giveN (quotsW (sumH l) l) (restsW (sumH l) l) (leftW (sumH l) l).toNat).1.getD k 0 = Tk at *
    by_cases e : quotW (sumH l) (l.getD k 0) = quotW (sumH l) (l.getD i 0)
    · have d : restW (sumH l) (l.getD k 0) < restW (sumH l) (l.getD i 0) := by
        unfold restW
        rw [e]; omega
      rcases E1 with ⟨a1, a2⟩ | ⟨a1, a2, a3⟩
      · rcases E2 with ⟨b1, b2⟩ | ⟨b1, b2, b3⟩
        · omega
        · have := O b1 (by omega)
          omega
      · rcases E2 with ⟨b1, b2⟩ | ⟨b1, b2, b3⟩ <;> omega
    · rcases E1 with ⟨a1, a2⟩ | ⟨a1, a2, a3⟩ <;> rcases E2 with ⟨b1, b2⟩ | ⟨b1, b2, b3⟩ <;> omega
end Go.Proofs.YtlknopmpbkepjaaGreatDoor

/- Weights that come to one: the document's taps of raw weights. -/
namespace Go.Proofs.YtlknopmpbkepjaaGreatDoor
open Go.RowKit

theorem quotsW_snoc (s : Int) (l : List Int) (x : Int) : quotsW s (l ++ [x]) = quotsW s l ++ [quotW s x] := by unfold quotsW; rw [List.map_append]; rfl
theorem quotsW_len (s : Int) (l : List Int) : (quotsW s l).length = l.length := by unfold quotsW; simp
theorem quotW_small {s x : Int} (s0 : 268435456 ≤ s) (h : smallW x) : -67108864 ≤ quotW s x ∧ quotW s x ≤ 67108864 ∧ 0 ≤ x * 16384 - quotW s x * s ∧ x * 16384 - quotW s x * s < s := by
  obtain ⟨q, _, r0, r1, _⟩ := quotW_at (s := s) (by omega) h
  unfold smallW at h
  have up : x * 16384 / s ≤ 67108864 := by
    have : x * 16384 / s < 67108865 := Int.ediv_lt_of_lt_mul (by omega) (by
      have := Int.mul_le_mul_of_nonneg_left s0 (show (0 : Int) ≤ 67108865 by omega)
      omega)
    omega
  have dn : -67108864 ≤ x * 16384 / s := by
    apply Int.le_ediv_of_mul_le (by omega)
    have := Int.mul_le_mul_of_nonneg_left s0 (show (0 : Int) ≤ 67108864 by omega)
    rw [Int.neg_mul]
    omega
  refine ⟨by omega, by omega, ?_, ?_⟩
  · have : restW s x = x * 16384 - quotW s x * s := rfl
    omega
  · have : restW s x = x * 16384 - quotW s x * s := rfl
    omega
theorem quots_in {s : Int} (s0 : 268435456 ≤ s) (l : List Int) (h : ∀ x ∈ l, smallW x) : -((l.length : Int) * 67108864) ≤ (quotsW s l).sum ∧ (quotsW s l).sum ≤ (l.length : Int) * 67108864 := by
  induction l with
  | nil => simp [quotsW]
  | cons a l ih =>
    obtain ⟨c0, c1⟩ := ih (fun x hx => h x (by simp [hx]))
    obtain ⟨d0, d1, _⟩ := quotW_small s0 (h a (by simp))
    have e : (quotsW s (a :: l)).sum = quotW s a + (quotsW s l).sum := by unfold quotsW; simp
    rw [e, show ((a :: l).length : Int) = (l.length : Int) + 1 by simp]
    omega
end Go.Proofs.YtlknopmpbkepjaaGreatDoor

/- Weights that come to one: the document's kernels. -/
namespace Go.Proofs.YtlknopmpbkepjaaGreatDoor
open Go.RowKit


def userR (l : List Int) : List Int := l.map fun x => divF (x * 1073741824) (sizeH l)
/-- May it be a user's kernel? -/
def UserP (l : List Int) : Prop := l.length % 2 = 1 ∧ l.length ≤ 1024 ∧ 1 ≤ sizeH l ∧ sizeH l ≤ 1048576
/-- The radius of a sigma. -/
def radG (s : Int) : Int := (3 * s + 65535) / 65536
def gaussTo (r s : Int) (j : Nat) : List Int := (List.range j).map fun k : Nat => gaussF ((k : Int) - r) s
theorem gaussTo_snoc (r s : Int) (j : Nat) : gaussTo r s (j + 1) = gaussTo r s j ++ [gaussF ((j : Int) - r) s] := by unfold gaussTo; rw [List.range_succ, List.map_append]; rfl
theorem gaussTo_len (r s : Int) (j : Nat) : (gaussTo r s j).length = j := by unfold gaussTo; rw [List.length_map, List.length_range]
def gaussR (s : Int) : List Int := gaussTo (radG s) s (2 * (radG s).toNat + 1)
theorem sizeH_ones (n : Nat) (h : n ≤ 2000) : sizeH (List.replicate n 1) = n := by
  induction n with
  | zero => rfl
  | succ n ih =>
    rw [List.replicate_succ', sizeH_snoc, ih (by omega)]
    have e : absH 1 = 1 := by decide
    rw [e]
    unfold plusH
    rw [holdI_in (by omega) (by omega)]
    omega
theorem ones_user (r : Nat) (h : r ≤ 511) : UserP (List.replicate (2 * r + 1) 1) := by
  unfold UserP
  rw [sizeH_ones _ (by omega), List.length_replicate]
  omega
theorem ones_64 (n : Nat) : All64 (List.replicate n 1) := by
  intro j hj
  rw [List.getD_eq_getElem?_getD, List.getElem?_eq_getElem hj, List.getElem_replicate]
  simp
end Go.Proofs.YtlknopmpbkepjaaGreatDoor

/- What comes in: slices of numbers, opened. -/
namespace Go.Proofs.YtlknopmpbkepjaaGreatDoor
open Go.RowKit


/-- Each number of a list fits its kind. -/
def AllK (k : IntKind) (xs : List Int) : Prop := ∀ n ∈ xs, (Lit.int k n).wf = true
theorem row_open {k : IntKind} {w : World} {a : Option Addr} {len cap : Nat}
    (h : (a = none ∧ len = 0 ∧ cap = 0) ∨ ∃ (x : Addr) (zs : List Int), a = some x ∧ len ≤ cap ∧ cap ≤ maxLen ∧ zs.length = cap ∧ (∀ i, i < zs.length → w.cell? (x.add i) = some (.int k (zs.getD i 0))) ∧ ∀ n ∈ zs, (Lit.int k n).wf = true) :
    ∃ xs : List Int, xs.length = len ∧ RowAt k w a xs ∧ AllK k xs ∧ xs.length ≤ maxLen ∧ (a = none → cap = 0) := by
  rcases h with ⟨rfl, rfl, rfl⟩ | ⟨x, zs, rfl, hl, hm, hz, hc, hw⟩
  · exact ⟨[], rfl, Or.inl rfl, (fun n hn => by cases hn), by simp, fun _ => rfl⟩
  · refine ⟨zs.take len, by rw [List.length_take]; omega, ?_, fun n hn => hw n (List.mem_of_mem_take hn), by rw [List.length_take]; omega, fun h => by cases h⟩
    by_cases h0 : len = 0
    · subst h0; exact Or.inl rfl
    · obtain ⟨b, off, rfl, c⟩ := ints_at hc (by omega)
      refine Or.inr ⟨b, off, rfl, fun j hj => ?_⟩
      rw [List.length_take] at hj
      have := c j (by omega)
      rw [this, List.getD_eq_getElem?_getD, List.getD_eq_getElem?_getD, List.getElem?_take, if_pos (by omega)]
theorem allK_at {k : IntKind} {xs : List Int} (h : AllK k xs) {j : Nat} (hj : j < xs.length) : (Lit.int k (xs.getD j 0)).wf = true := by
  rw [List.getD_eq_getElem?_getD, List.getElem?_eq_getElem hj]
  exact h _ (List.getElem_mem hj)
theorem allK_i64 {xs : List Int} (h : AllK .i64 xs) {j : Nat} (hj : j < xs.length) : -9223372036854775808 ≤ xs.getD j 0 ∧ xs.getD j 0 ≤ 9223372036854775807 := by
  simpa [Lit.wf, IntKind.min, IntKind.max, IntKind.signed, IntKind.bits] using allK_at h hj
theorem allK_i32 {xs : List Int} (h : AllK .i32 xs) {j : Nat} (hj : j < xs.length) : -2147483648 ≤ xs.getD j 0 ∧ xs.getD j 0 ≤ 2147483647 := by
  simpa [Lit.wf, IntKind.min, IntKind.max, IntKind.signed, IntKind.bits] using allK_at h hj
theorem allK_u8 {xs : List Int} (h : AllK .u8 xs) {j : Nat} (hj : j < xs.length) : 0 ≤ xs.getD j 0 ∧ xs.getD j 0 ≤ 255 := by
  simpa [Lit.wf, IntKind.min, IntKind.max, IntKind.signed, IntKind.bits] using allK_at h hj
end Go.Proofs.YtlknopmpbkepjaaGreatDoor

/- Weights that come to one: what the calls answer, whatever comes in. -/
namespace Go.Proofs.YtlknopmpbkepjaaGreatDoor
open Go.RowKit


/-- A slice that reads so. -/
def Ret (k : IntKind) (xs : List Int) (w : World) (v : Value) : Prop := ∃ ad cap, v = .slice ad xs.length cap ∧ RowAt k w ad xs
theorem OwnI.ret {k : IntKind} {T : TypeId} {w : World} {base : Nat} {v : Value} {xs : List Int} (h : OwnI k T w base v xs) : Ret k xs w v := by
  obtain ⟨ad, cap, h1, h2, _⟩ := h.form
  exact ⟨ad, cap, h1, h2⟩
theorem ret_nil (k : IntKind) (w : World) (ad : Option Addr) (cap : Nat) : Ret k [] w (.slice ad 0 cap) := ⟨ad, cap, rfl, Or.inl rfl⟩
theorem Ret.below {k : IntKind} {xs : List Int} {w w' : World} {v : Value} (h : Ret k xs w v) (hb : Below w.heap.size w w') : Ret k xs w' v := by
  obtain ⟨ad, cap, h1, h2⟩ := h
  exact ⟨ad, cap, h1, h2.below hb⟩
theorem Ret.formn {k : IntKind} {w : World} {n : Nat} {v : Value} {xs : List Int} (h : Ret k xs w v) (hn : xs.length = n) : ∃ ad cap, v = .slice ad n cap ∧ RowAt k w ad xs := by subst hn; exact h
def badB (l : List Int) : Bool := decide (l.length < 1) || decide (1048576 < l.length) || l.any (fun x => decide (x < -1099511627776) || decide (1099511627776 < x))
def appCode (l : List Int) : Int := if badB l = true then 7 else if sumH l < 268435456 then 8 else 0
def appOut (l : List Int) : List Int := if appCode l = 0 then appR l else []
theorem badB_iff (l : List Int) : badB l = true ↔ l.length < 1 ∨ 1048576 < l.length ∨ ¬ ∀ x ∈ l, smallW x := by
  unfold badB smallW
  rw [Bool.or_eq_true, Bool.or_eq_true, decide_eq_true_eq, decide_eq_true_eq, List.any_eq_true]
  constructor
  · rintro ((h | h) | ⟨x, hx, h⟩)
    · exact Or.inl h
    · exact Or.inr (Or.inl h)
    · refine Or.inr (Or.inr fun g => ?_)
      have := g x hx
      simp at h
      omega
  · rintro (h | h | h)
    · exact Or.inl (Or.inl h)
    · exact Or.inl (Or.inr h)
    · refine Or.inr ?_
      simp only [Classical.not_forall] at h
      obtain ⟨x, hx, g⟩ := h
      refine ⟨x, hx, ?_⟩
      simp
      omega
theorem appCode_fits {l : List Int} : appCode l = 0 ↔ Fits l := by
  unfold appCode
  have B := badB_iff l
  constructor
  · intro h
    by_cases g : badB l = true
    · rw [if_pos g] at h; omega
    · rw [if_neg g] at h
      by_cases g2 : sumH l < 268435456
      · rw [if_pos g2] at h; omega
      · have nb : ¬ (l.length < 1 ∨ 1048576 < l.length ∨ ¬ ∀ x ∈ l, smallW x) := fun q => g (B.2 q)
        refine ⟨?_, ?_, ?_, by omega⟩
        · by_cases q : l.length < 1
          · exact absurd (Or.inl q) nb
          · omega
        · by_cases q : 1048576 < l.length
          · exact absurd (Or.inr (Or.inl q)) nb
          · omega
        · exact Classical.byContradiction fun q => nb (Or.inr (Or.inr q))
  · rintro ⟨h0, h1, h2, h3⟩
    have g : ¬ badB l = true := fun q => by
      rcases B.1 q with h | h | h
      · omega
      · omega
      · exact h h2
    rw [if_neg g, if_neg (by omega)]
def userB (l : List Int) : Bool := decide (l.length % 2 = 1) && decide (l.length ≤ 1024) && decide (1 ≤ sizeH l) && decide (sizeH l ≤ 1048576)
theorem userB_iff (l : List Int) : userB l = true ↔ UserP l := by unfold userB UserP; simp; omega
def userCode (l : List Int) : Int := if userB l = true then 0 else 7
def userOut (l : List Int) : List Int := if userB l = true then userR l else []
def gauCode (s : Int) : Int := if 1 ≤ s ∧ s ≤ 4194304 then 0 else 7
def gauOut (s : Int) : List Int := if 1 ≤ s ∧ s ≤ 4194304 then gaussR s else []
def blurCode (r : Int) : Int := if 0 ≤ r ∧ r ≤ 511 then 0 else 7
def blurOut (r : Int) : List Int := if 0 ≤ r ∧ r ≤ 511 then userR (List.replicate (2 * r.toNat + 1) 1) else []
end Go.Proofs.YtlknopmpbkepjaaGreatDoor

/- Lines of a table in memory. No number of the program but that of int64 stands in it. -/
namespace Go.Proofs.YtlknopmpbkepjaaGreatDoor
open Go.RowKit


/-- The block holds these lines. -/
def LinesAt (w : World) (g : Nat) (L : List (Int × List Int)) : Prop :=
  ∀ j, j < L.length → w.cell? ⟨g, j * 2, none⟩ = some (.int .i64 (lnAt L j).1) ∧ ∃ u, w.cell? ⟨g, j * 2 + 1, none⟩ = some u ∧ Ret .i64 (lnAt L j).2 w u
theorem LinesAt.below {w w' : World} {g : Nat} {L : List (Int × List Int)} (h : LinesAt w g L) (hb : Below w.heap.size w w') : LinesAt w' g L := by
  intro j hj
  obtain ⟨h1, u, h2, h3⟩ := h j hj
  exact ⟨cb hb (cell_ltL h1) h1, u, cb hb (cell_ltL h2) h2, h3.below hb⟩
end Go.Proofs.YtlknopmpbkepjaaGreatDoor

/- Lines of a table: what the document's calls answer. -/
namespace Go.Proofs.YtlknopmpbkepjaaGreatDoor
open Go.RowKit

/-! ### The tables that the document makes -/
/-- What a resize answers: its code, and its lines. -/
def sideB (n : Int) : Bool := decide (1 ≤ n) && decide (n ≤ 65536)
theorem sideB_iff (n : Int) : sideB n = true ↔ 1 ≤ n ∧ n ≤ 65536 := by unfold sideB; simp
end Go.Proofs.YtlknopmpbkepjaaGreatDoor
