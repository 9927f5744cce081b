/- Parts, joined. -/
import Derived.Test.YtdpkigdfhfippaaGreatDoorJ12
import Derived.Test.YtdpkigdfhfippaaGreatDoorJ01
/- Lines of a table: plain lists. No number of the program stands in it. -/
namespace Go.Proofs.YtdpkigdfhfippaaGreatDoor


/-- An output sample's line: its first source sample, and its taps. -/
def lnAt (L : List (Int × List Int)) (j : Nat) : Int × List Int := L.getD j (0, [])
def LineOk (x : Int × List Int) : Prop := -1099511627776 ≤ x.1 ∧ x.1 ≤ 1099511627776 ∧ 1 ≤ x.2.length ∧ x.2.length ≤ 1048576 ∧ All64 x.2
def LinesOk (L : List (Int × List Int)) : Prop := ∀ j, j < L.length → LineOk (lnAt L j)
theorem lnAt_get {L : List (Int × List Int)} {j : Nat} (h : j < L.length) : lnAt L j = L[j] := by
  unfold lnAt; rw [List.getD_eq_getElem?_getD, List.getElem?_eq_getElem h]; rfl
theorem lnAt_old {L : List (Int × List Int)} (x : Int × List Int) {j : Nat} (h : j < L.length) : lnAt (L ++ [x]) j = lnAt L j := by
  unfold lnAt; rw [List.getD_eq_getElem?_getD, List.getD_eq_getElem?_getD, List.getElem?_append_left h]
theorem lnAt_new (L : List (Int × List Int)) (x : Int × List Int) : lnAt (L ++ [x]) L.length = x := by
  unfold lnAt; rw [List.getD_eq_getElem?_getD, List.getElem?_append_right (Nat.le_refl _), Nat.sub_self]; rfl
theorem lnAt_map (f : Nat → Int × List Int) {m j : Nat} (h : j < m) : lnAt ((List.range m).map f) j = f j := by
  rw [lnAt_get (by rw [List.length_map, List.length_range]; exact h)]
  rw [List.getElem_map, List.getElem_range]
/-! ### What some outputs take -/
def reachStep (s : Int × Int × Bool) (f : Int) (c : Nat) : Int × Int × Bool := if s.2.2 = true then (min s.1 f, max s.2.1 (f + (c : Int)), true) else (f, f + (c : Int), true)
def reachTo (L : List (Int × List Int)) (i k : Int) : Nat → Int × Int × Bool
  | 0 => (0, 0, false)
  | o + 1 => if (o : Int) < i ∨ k ≤ (o : Int) then reachTo L i k o else reachStep (reachTo L i k o) (lnAt L o).1 (lnAt L o).2.length
def reachF (L : List (Int × List Int)) (i k : Int) : Int × Int × Bool := reachTo L i k L.length
/-- Tap by tap. -/
def reachTap (s : Int × Int × Bool) (f : Int) : Nat → Int × Int × Bool
  | 0 => s
  | t + 1 => (if (reachTap s f t).2.2 = true ∧ ¬ f + (t : Int) < (reachTap s f t).1 then (reachTap s f t).1 else f + (t : Int),
      if (reachTap s f t).2.2 = true ∧ ¬ (reachTap s f t).2.1 < f + (t : Int) + 1 then (reachTap s f t).2.1 else f + (t : Int) + 1, true)
theorem reach_pair {a b c d : Int} (h1 : a = c) (h2 : b = d) : ((a, b, true) : Int × Int × Bool) = (c, d, true) := by rw [h1, h2]
theorem tap_low (a f : Int) (t : Nat) : (if (true = true ∧ ¬ f + (t : Int) < a) then a else f + (t : Int)) = min a (f + (t : Int)) := by
  by_cases q : f + (t : Int) < a
  · rw [if_neg (fun h => h.2 q)]; omega
  · rw [if_pos ⟨rfl, q⟩]; omega
theorem tap_high (b f : Int) (t : Nat) : (if (true = true ∧ ¬ b < f + (t : Int) + 1) then b else f + (t : Int) + 1) = max b (f + (t : Int) + 1) := by
  by_cases q : b < f + (t : Int) + 1
  · rw [if_neg (fun h => h.2 q)]; omega
  · rw [if_pos ⟨rfl, q⟩]; omega
theorem reachTap_next (s : Int × Int × Bool) (f : Int) (t : Nat) (a b : Int) (h : reachTap s f t = (a, b, true)) : reachTap s f (t + 1) = (min a (f + (t : Int)), max b (f + (t : Int) + 1), true) := by
  show (_, _, _) = _
  rw [h]
  exact reach_pair (tap_low a f t) (tap_high b f t)
theorem reachTap_first (s : Int × Int × Bool) (f : Int) (t : Nat) (a b : Int) (h : reachTap s f t = (a, b, false)) : reachTap s f (t + 1) = (f + (t : Int), f + (t : Int) + 1, true) := by
  show (_, _, _) = _
  rw [h]
  simp
theorem reachTap_at (s : Int × Int × Bool) (f : Int) (t : Nat) : reachTap s f (t + 1) = reachStep s f (t + 1) := by
  obtain ⟨a, b, c⟩ := s
  cases c
  · have e : ∀ t : Nat, reachTap (a, b, false) f (t + 1) = (f, f + ((t + 1 : Nat) : Int), true) := by
      intro t
      induction t with
      | zero => unfold reachTap reachTap; simp
      | succ t ih => rw [reachTap_next _ f (t + 1) _ _ ih]; exact reach_pair (by omega) (by omega)
    rw [e]; rfl
  · have e : ∀ t : Nat, reachTap (a, b, true) f (t + 1) = (min a f, max b (f + ((t + 1 : Nat) : Int)), true) := by
      intro t
      induction t with
      | zero => rw [reachTap_next _ f 0 _ _ rfl]; exact reach_pair (by omega) (by omega)
      | succ t ih => rw [reachTap_next _ f (t + 1) _ _ ih]; exact reach_pair (by omega) (by omega)
    rw [e]; rfl
def ReachIn (s : Int × Int × Bool) : Prop := -1099511627776 ≤ s.1 ∧ s.1 ≤ 1099511627776 ∧ -1099511627776 ≤ s.2.1 ∧ s.2.1 ≤ 1099512676352 ∧ (s.2.2 = true → s.1 < s.2.1) ∧ (s.2.2 = false → s.1 = 0 ∧ s.2.1 = 0)
theorem reachIn_no {a b : Int} (h0 : a = 0) (h1 : b = 0) : ReachIn (a, b, false) := by
  subst h0; subst h1
  exact ⟨by simp, by simp, by simp, by simp, (fun e => by cases e), fun _ => ⟨rfl, rfl⟩⟩
theorem reachIn_yes {a b : Int} (h0 : -1099511627776 ≤ a) (h1 : a ≤ 1099511627776) (h2 : a < b) (h3 : b ≤ 1099512676352) : ReachIn (a, b, true) :=
  ⟨h0, h1, (by show _ ≤ b; omega), h3, (fun _ => h2), fun e => by cases e⟩
theorem reachStep_in {s : Int × Int × Bool} (h : ReachIn s) {f : Int} {c : Nat} (f0 : -1099511627776 ≤ f) (f1 : f ≤ 1099511627776) (c0 : 1 ≤ c) (c1 : c ≤ 1048576) : ReachIn (reachStep s f c) := by
  obtain ⟨a, b, g⟩ := s
  cases g
  · exact reachIn_yes f0 f1 (by omega) (by omega)
  · obtain ⟨h0, h1, h2, h3, h4, _⟩ := h
    have h5 : a < b := h4 rfl
    have h0 : -1099511627776 ≤ a := h0
    have h1 : a ≤ 1099511627776 := h1
    have h3 : b ≤ 1099512676352 := h3
    exact reachIn_yes (by omega) (by omega) (by omega) (by omega)
theorem reachTo_in {L : List (Int × List Int)} (h : LinesOk L) (i k : Int) (o : Nat) (ho : o ≤ L.length) : ReachIn (reachTo L i k o) := by
  induction o with
  | zero => exact reachIn_no rfl rfl
  | succ o ih =>
    unfold reachTo
    split
    · exact ih (by omega)
    · obtain ⟨f0, f1, c0, c1, _⟩ := h o (by omega)
      exact reachStep_in (ih (by omega)) f0 f1 c0 c1
theorem reachTap_in {s : Int × Int × Bool} (h : ReachIn s) {f : Int} (f0 : -1099511627776 ≤ f) (f1 : f ≤ 1099511627776) (t : Nat) (ht : t ≤ 1048576) : ReachIn (reachTap s f t) := by
  cases t with
  | zero => exact h
  | succ t => rw [reachTap_at]; exact reachStep_in h f0 f1 (by omega) ht
/-! ### The most taps, the greatest size -/
def mostTo (L : List (Int × List Int)) : Nat → Int
  | 0 => 0
  | o + 1 => max (mostTo L o) ((lnAt L o).2.length : Int)
def mostF (L : List (Int × List Int)) : Int := mostTo L L.length
def sizeTo (L : List (Int × List Int)) : Nat → Int
  | 0 => 0
  | o + 1 => max (sizeTo L o) (sizeH (lnAt L o).2)
def sizeF (L : List (Int × List Int)) : Int := sizeTo L L.length
theorem mostTo_in {L : List (Int × List Int)} (h : LinesOk L) (o : Nat) (ho : o ≤ L.length) : 0 ≤ mostTo L o ∧ mostTo L o ≤ 1048576 := by
  induction o with
  | zero => exact ⟨Int.le_refl 0, by show (0 : Int) ≤ _; omega⟩
  | succ o ih =>
    have := ih (by omega)
    obtain ⟨_, _, _, c1, _⟩ := h o (by omega)
    unfold mostTo
    omega
theorem mostTo_ge {L : List (Int × List Int)} {j : Nat} (o : Nat) (h : j < o) : ((lnAt L j).2.length : Int) ≤ mostTo L o := by
  induction o with
  | zero => omega
  | succ o ih =>
    unfold mostTo
    by_cases e : j = o
    · subst e; omega
    · have := ih (by omega); omega
end Go.Proofs.YtdpkigdfhfippaaGreatDoor

/- Weights that come to one: what is given, and to whom. -/
namespace Go.Proofs.YtdpkigdfhfippaaGreatDoor


def posSum (l : List Int) : Int := (l.map fun x => max x 0).sum
theorem posSum_none (l : List Int) (h : ∀ j, j < l.length → l.getD j 0 ≤ 0) : posSum l = 0 := by
  induction l with
  | nil => rfl
  | cons a l ih =>
    have a0 : a ≤ 0 := by have := h 0 (by simp); simpa using this
    have := ih (fun j hj => by have := h (j + 1) (by simpa using hj); simpa using this)
    unfold posSum at *
    simp only [List.map_cons, List.sum_cons]
    omega
theorem posSum_all (l : List Int) (h : ∀ j, j < l.length → 0 ≤ l.getD j 0) : posSum l = l.sum := by
  induction l with
  | nil => rfl
  | cons a l ih =>
    have a0 : 0 ≤ a := by have := h 0 (by simp); simpa using this
    have := ih (fun j hj => by have := h (j + 1) (by simpa using hj); simpa using this)
    unfold posSum at *
    simp only [List.map_cons, List.sum_cons]
    omega
theorem posSum_set (l : List Int) (i : Nat) (x : Int) (hi : i < l.length) : posSum (l.set i x) = posSum l - max (l.getD i 0) 0 + max x 0 := by
  unfold posSum
  rw [List.map_set, sum_set _ _ _ (by simpa using hi)]
  rw [List.getD_eq_getElem?_getD, List.getElem?_map, List.getD_eq_getElem?_getD, List.getElem?_eq_getElem hi]
  rfl
structure Setting (s : Int) (q r : List Int) (n lf : Nat) : Prop where
  n0 : 1 ≤ n
  s0 : 0 < s
  ql : q.length = n
  rl : r.length = n
  rin : ∀ j, j < n → 0 ≤ r.getD j 0 ∧ r.getD j 0 < s
  rsum : r.sum = (lf : Int) * s
structure Given (s : Int) (q r : List Int) (n lf m : Nat) : Prop where
  each : ∀ j, j < n → ((giveN q r m).2.getD j 0 = r.getD j 0 ∧ (giveN q r m).1.getD j 0 = q.getD j 0) ∨ ((giveN q r m).2.getD j 0 = -1 ∧ (giveN q r m).1.getD j 0 = q.getD j 0 + 1 ∧ 0 < r.getD j 0)
  rests : ((lf : Int) - m) * s ≤ posSum (giveN q r m).2
  sum : (giveN q r m).1.sum = q.sum + m
  order : ∀ i k, i < n → k < n → (giveN q r m).2.getD k 0 = -1 → (giveN q r m).2.getD i 0 ≠ -1 → r.getD i 0 ≤ r.getD k 0
theorem give_inv {s : Int} {q r : List Int} {n lf : Nat} (h : Setting s q r n lf) (m : Nat) (hm : m ≤ lf) : Given s q r n lf m := by
  induction m with
  | zero =>
    refine ⟨fun j _ => Or.inl ⟨rfl, rfl⟩, ?_, by simp [giveN], ?_⟩
    · rw [show (giveN q r 0).2 = r from rfl, posSum_all r (fun j hj => (h.rin j (by rw [← h.rl]; exact hj)).1), h.rsum]
      simp
    · intro i k hi hk hc _
      have := (h.rin k hk).1
      rw [show (giveN q r 0).2 = r from rfl] at hc
      omega
  | succ m ih =>
    have I := ih (by omega)
    obtain ⟨l1, l2⟩ := giveN_len q r m
    have e1 : (giveN q r (m + 1)).1 = (giveN q r m).1.set (bestTo (giveN q r m).2 (giveN q r m).2.length) ((giveN q r m).1.getD (bestTo (giveN q r m).2 (giveN q r m).2.length) 0 + 1) := rfl
    have e2 : (giveN q r (m + 1)).2 = (giveN q r m).2.set (bestTo (giveN q r m).2 (giveN q r m).2.length) (-1) := rfl
    obtain ⟨each, rests, sum, order⟩ := I
    rw [h.ql] at l1
    rw [h.rl] at l2
    have bl := bestTo_lt (giveN q r m).2 (giveN q r m).2.length
    have bm := bestTo_max (giveN q r m).2 (giveN q r m).2.length
    rw [l2] at bl bm e1 e2
    generalize (giveN q r m).1 = O at *
    generalize (giveN q r m).2 = R at *
    obtain ⟨b, hb⟩ : ∃ b, bestTo R n = b := ⟨_, rfl⟩
    rw [hb] at bl bm e1 e2
    have n0 := h.n0
    have b1 : b < n := by omega
    -- the greatest rest is above nought
    have pos : 0 < R.getD b 0 := by
      by_cases g : 0 < R.getD b 0
      · exact g
      · exfalso
        have z := posSum_none R (fun j hj => by have := bm j (by omega); omega)
        have s0 := h.s0
        have : s ≤ ((lf : Int) - m) * s := by
          have := Int.mul_le_mul_of_nonneg_right (show (1 : Int) ≤ (lf : Int) - m by omega) (show 0 ≤ s by omega)
          omega
        omega
    have eb := each b b1
    have ub : R.getD b 0 = r.getD b 0 ∧ O.getD b 0 = q.getD b 0 := by
      rcases eb with g | g
      · exact g
      · omega
    have g2 : ∀ j, (giveN q r (m + 1)).2.getD j 0 = if b = j then -1 else R.getD j 0 := fun j => by rw [e2]; exact getD_set R b j (-1) (by omega)
    have g1 : ∀ j, (giveN q r (m + 1)).1.getD j 0 = if b = j then O.getD b 0 + 1 else O.getD j 0 := fun j => by rw [e1]; exact getD_set O b j _ (by omega)
    refine ⟨?_, ?_, ?_, ?_⟩
    · intro j hj
      rw [g1, g2]
      by_cases e : b = j
      · subst e
        rw [if_pos rfl, if_pos rfl]
        exact Or.inr ⟨rfl, by omega, by omega⟩
      · rw [if_neg e, if_neg e]
        exact each j hj
    · rw [e2, posSum_set R b (-1) (by omega)]
      have := (h.rin b b1).2
      have e : ((lf : Int) - (m + 1 : Nat)) * s = ((lf : Int) - m) * s - s := by
        rw [show (lf : Int) - (m + 1 : Nat) = ((lf : Int) - m) - 1 by omega, Int.sub_mul ((lf : Int) - m) 1, Int.one_mul]
      rw [e]
      omega
    · rw [e1, sum_set O b _ (by omega), sum]
      omega
    · intro i k hi hk hc hu
      rw [g2] at hc hu
      by_cases ei : b = i
      · rw [if_pos ei] at hu; omega
      · rw [if_neg ei] at hu
        have vi : R.getD i 0 = r.getD i 0 := by
          rcases each i hi with g | g
          · exact g.1
          · omega
        by_cases ek : b = k
        · subst ek
          have := bm i (by omega)
          omega
        · rw [if_neg ek] at hc
          exact order i k hi hk hc hu
theorem getD_map (f : Int → Int) (l : List Int) {j : Nat} (h : j < l.length) : (l.map f).getD j 0 = f (l.getD j 0) := by
  rw [List.getD_eq_getElem?_getD, List.getElem?_map, List.getD_eq_getElem?_getD, List.getElem?_eq_getElem h]; rfl
theorem mem_getD {l : List Int} {P : Int → Prop} (h : ∀ x ∈ l, P x) {j : Nat} (hj : j < l.length) : P (l.getD j 0) := by
  rw [List.getD_eq_getElem?_getD, List.getElem?_eq_getElem hj]
  exact h _ (List.getElem_mem hj)
theorem getD_mem {l : List Int} {P : Int → Prop} (h : ∀ j, j < l.length → P (l.getD j 0)) : ∀ x ∈ l, P x := by
  intro x hx
  obtain ⟨j, hj, rfl⟩ := List.getElem_of_mem hx
  have := h j hj
  rw [List.getD_eq_getElem?_getD, List.getElem?_eq_getElem hj] at this
  exact this
/-- Rests come to what lacks. -/
theorem rests_sum (s : Int) (l : List Int) : (restsW s l).sum = l.sum * 16384 - (quotsW s l).sum * s := by
  induction l with
  | nil => simp [restsW, quotsW]
  | cons a l ih =>
    unfold restsW quotsW at *
    simp only [List.map_cons, List.sum_cons]
    rw [ih]
    unfold restW
    rw [Int.add_mul, Int.add_mul]
    omega
structure Fits (l : List Int) : Prop where
  n0 : 1 ≤ l.length
  n1 : l.length ≤ 1048576
  small : ∀ x ∈ l, smallW x
  s0 : 268435456 ≤ sumH l
theorem fits_setting {l : List Int} (h : Fits l) : Setting (sumH l) (quotsW (sumH l) l) (restsW (sumH l) l) l.length (leftW (sumH l) l).toNat ∧ 0 ≤ leftW (sumH l) l ∧ leftW (sumH l) l < l.length := by
  obtain ⟨n0, n1, sm, s0⟩ := h
  obtain ⟨es, e0, e1⟩ := sumH_small l sm n1
  have rin : ∀ j, j < l.length → 0 ≤ (restsW (sumH l) l).getD j 0 ∧ (restsW (sumH l) l).getD j 0 < sumH l := by
    intro j hj
    unfold restsW
    rw [getD_map _ _ hj]
    obtain ⟨_, _, a, b, _⟩ := quotW_at (s := sumH l) (by omega) (mem_getD sm hj)
    exact ⟨a, b⟩
  have rs : (restsW (sumH l) l).sum = leftW (sumH l) l * sumH l := by
    rw [rests_sum]
    unfold leftW
    rw [Int.sub_mul, es]
    omega
  have rl : (restsW (sumH l) l).length = l.length := by unfold restsW; simp
  have up : ∀ (r : List Int), (∀ j, j < r.length → 0 ≤ r.getD j 0 ∧ r.getD j 0 < sumH l) → 0 ≤ r.sum ∧ (1 ≤ r.length → r.sum < (r.length : Int) * sumH l) := by
    intro r
    induction r with
    | nil => intro _; simp
    | cons a r ih =>
      intro hr
      have a0 := hr 0 (by simp)
      simp only [List.getD_cons_zero] at a0
      obtain ⟨c0, c1⟩ := ih (fun j hj => by have := hr (j + 1) (by simpa using hj); simpa using this)
      simp only [List.sum_cons, List.length_cons]
      refine ⟨by omega, fun _ => ?_⟩
      rw [show ((r.length + 1 : Nat) : Int) = (r.length : Int) + 1 by omega, Int.add_mul, Int.one_mul]
      rcases Nat.eq_zero_or_pos r.length with z | z
      · have : r = [] := List.eq_nil_of_length_eq_zero z
        subst this; simp; omega
      · have := c1 z; omega
  obtain ⟨u0, u1⟩ := up (restsW (sumH l) l) (by rw [rl]; exact rin)
  rw [rs] at u0 u1
  rw [rl] at u1
  have l0 : 0 ≤ leftW (sumH l) l := by
    by_cases g : 0 ≤ leftW (sumH l) l
    · exact g
    · exfalso
      have := Int.mul_le_mul_of_nonneg_right (show leftW (sumH l) l ≤ -1 by omega) (show 0 ≤ sumH l by omega)
      omega
  refine ⟨⟨n0, by omega, by unfold quotsW; simp, rl, rin, ?_⟩, l0, ?_⟩
  · rw [rs, show (((leftW (sumH l) l).toNat : Nat) : Int) = leftW (sumH l) l by omega]
  · by_cases g : leftW (sumH l) l < l.length
    · exact g
    · exfalso
      have := Int.mul_le_mul_of_nonneg_right (show (l.length : Int) ≤ leftW (sumH l) l by omega) (show 0 ≤ sumH l by omega)
      have := u1 n0
      omega
/-- What taps are. -/
theorem app_facts {l : List Int} (h : Fits l) :
    (appR l).length = l.length ∧ (appR l).sum = 16384 ∧
    (∀ j, j < l.length → (appR l).getD j 0 = quotW (sumH l) (l.getD j 0) ∨ ((appR l).getD j 0 = quotW (sumH l) (l.getD j 0) + 1 ∧ 0 < restW (sumH l) (l.getD j 0))) ∧
    (∀ i k, i < l.length → k < l.length → l.getD k 0 < l.getD i 0 → (appR l).getD k 0 ≤ (appR l).getD i 0) := by
  obtain ⟨S, l0, l1⟩ := fits_setting h
  have G := give_inv S _ (Nat.le_refl _)
  obtain ⟨n0, n1, sm, s0⟩ := h
  obtain ⟨each, _, sum, order⟩ := G
  obtain ⟨la, lb⟩ := giveN_len (quotsW (sumH l) l) (restsW (sumH l) l) (leftW (sumH l) l).toNat
  have eq : ∀ j, j < l.length → (quotsW (sumH l) l).getD j 0 = quotW (sumH l) (l.getD j 0) := fun j hj => getD_map _ _ hj
  have er : ∀ j, j < l.length → (restsW (sumH l) l).getD j 0 = restW (sumH l) (l.getD j 0) := fun j hj => getD_map _ _ hj
  have len : (appR l).length = l.length := by unfold appR; rw [la]; unfold quotsW; simp
  refine ⟨len, ?_, ?_, ?_⟩
  · have : leftW (sumH l) l = 16384 - (quotsW (sumH l) l).sum := rfl
    unfold appR; rw [sum]; omega
  · intro j hj
    have := each j hj
    rw [eq j hj, er j hj] at this
    rcases this with g | g
    · exact Or.inl g.2
    · exact Or.inr ⟨g.2.1, g.2.2⟩
  · intro i k hi hk hlt
    obtain ⟨qi, ri, ri0, ri1, _⟩ := quotW_at (s := sumH l) (by omega) (mem_getD sm hi)
    obtain ⟨qk, rk, rk0, rk1, _⟩ := quotW_at (s := sumH l) (by omega) (mem_getD sm hk)
    have E1 := each i hi
    have E2 := each k hk
    have O := order i k hi hk
    rw [eq i hi, er i hi] at E1
    rw [eq k hk, er k hk] at E2
    rw [er i hi, er k hk] at O
    have mono : quotW (sumH l) (l.getD k 0) ≤ quotW (sumH l) (l.getD i 0) := by
      rw [qi, qk]; exact Int.ediv_le_ediv (by omega) (by omega)
    unfold appR
    generalize (giveN (quotsW (sumH l) l) (restsW (sumH l) l) (leftW (sumH l) l).toNat).1.getD i 0 = Ti at *
    generalize (giveN (quotsW (sumH l) l) (restsW (sumH l) l) (leftW (sumH l) l).toNat).1.getD k 0 = Tk at *
    by_cases e : quotW (sumH l) (l.getD k 0) = quotW (sumH l) (l.getD i 0)
    · have d : restW (sumH l) (l.getD k 0) < restW (sumH l) (l.getD i 0) := by
        unfold restW
        rw [e]; omega
      rcases E1 with ⟨a1, a2⟩ | ⟨a1, a2, a3⟩
      · rcases E2 with ⟨b1, b2⟩ | ⟨b1, b2, b3⟩
        · omega
        · have := O b1 (by omega)
          omega
      · rcases E2 with ⟨b1, b2⟩ | ⟨b1, b2, b3⟩ <;> omega
    · rcases E1 with ⟨a1, a2⟩ | ⟨a1, a2, a3⟩ <;> rcases E2 with ⟨b1, b2⟩ | ⟨b1, b2, b3⟩ <;> omega
end Go.Proofs.YtdpkigdfhfippaaGreatDoor
