/- Parts, joined. -/
import Derived.Test.YtclgghhpiljgfaaGreatDoorJ15
import Derived.Test.YtclgghhpiljgfaaGreatDoorJ12
/- Weights that come to one: the document's small calls. -/
namespace Go.Proofs.YtclgghhpiljgfaaGreatDoor
open Go.RowKit


theorem refplus_any (a b : Int) (h0 : -9223372036854775808 ≤ a) (h1 : a ≤ 9223372036854775807) (k0 : -9223372036854775808 ≤ b) (k1 : b ≤ 9223372036854775807) (w : World) :
    Calls Tryz.prog 76 #[.int .i64 a, .int .i64 b] w fun e w' => e = .returned (.int .i64 (plusH a b)) ∧ w = w' := by
  unfold plusH
  by_cases g : 0 < b
  · by_cases g2 : 9223372036854775807 - b < a
    · rw [holdI_hi (by omega)]
      go_enter Tryz.func76, Tryz.ntmps76
      go_wp2
      go_ret
      exact ⟨rfl, rfl⟩
    · rw [holdI_in (by omega) (by omega)]
      have g3 : ¬ b < 0 := by omega
      go_enter Tryz.func76, Tryz.ntmps76
      go_wp2
      go_ret
      exact ⟨rfl, rfl⟩
  · by_cases g3 : b < 0
    · by_cases g2 : a < -9223372036854775808 - b
      · rw [holdI_lo (by omega)]
        go_enter Tryz.func76, Tryz.ntmps76
        go_wp2
        go_ret
        exact ⟨rfl, rfl⟩
      · rw [holdI_in (by omega) (by omega)]
        go_enter Tryz.func76, Tryz.ntmps76
        go_wp2
        go_ret
        exact ⟨rfl, rfl⟩
    · rw [holdI_in (by omega) (by omega)]
      go_enter Tryz.func76, Tryz.ntmps76
      go_wp2
      go_ret
      exact ⟨rfl, rfl⟩
theorem refsizeH_any (x : Int) (h0 : -9223372036854775808 ≤ x) (h1 : x ≤ 9223372036854775807) (w : World) :
    Calls Tryz.prog 70 #[.int .i64 x] w fun e w' => e = .returned (.int .i64 (absH x)) ∧ w = w' := by
  unfold absH absI
  by_cases g : x < 0
  · rw [if_pos g]
    by_cases g2 : x < -9223372036854775807
    · rw [holdI_hi (by omega)]
      go_enter Tryz.func70, Tryz.ntmps70
      go_wp2
      go_ret
      exact ⟨rfl, rfl⟩
    · rw [holdI_in (by omega) (by omega)]
      go_enter Tryz.func70, Tryz.ntmps70
      go_wp2
      go_ret
      exact ⟨rfl, rfl⟩
  · rw [if_neg g, holdI_in (by omega) (by omega)]
    go_enter Tryz.func70, Tryz.ntmps70
    go_wp2
    go_ret
    exact ⟨rfl, rfl⟩
/-- Numbers that are int64's. -/
def All64 (xs : List Int) : Prop := ∀ j, j < xs.length → -9223372036854775808 ≤ xs.getD j 0 ∧ xs.getD j 0 ≤ 9223372036854775807
theorem refsum_any (xs : List Int) (ad : Option Addr) (cap : Nat) (w : World) (hr : RowAt .i64 w ad xs) (hx : All64 xs) (hl : xs.length ≤ 9223372036854775807) :
    Calls Tryz.prog 71 #[.slice ad xs.length cap] w fun e w' => e = .returned (.int .i64 (sumH xs)) ∧ w = w' := by
  have HR := hide hr
  have HX := hide hx
  clear hr hx
  obtain ⟨n, hn⟩ : ∃ n, xs.length = n := ⟨_, rfl⟩
  have HN := hide hn
  rw [hn] at hl ⊢
  clear hn
  go_enter Tryz.func71, Tryz.ntmps71
  go_wp2
  go_loop [3, 8] (fun s i => ∃ k : Nat, k ≤ n ∧ i = .int .i64 (k : Int) ∧ s = .int .i64 (sumH (xs.take k))) (fun _ i => n - (intOf i).toNat)
  case atStart => exact ⟨0, by omega, rfl, rfl⟩
  case round =>
    obtain ⟨k, hk, rfl, rfl⟩ := hrel
    by_cases hlt : k < n
    · obtain ⟨b, off, rfl, hc⟩ := HR.out.get (show k < xs.length by rw [HN.out]; exact hlt)
      obtain ⟨x0, x1⟩ := HX.out k (by rw [HN.out]; exact hlt)
      obtain ⟨s0, s1⟩ := sumH_in (xs.take k)
      have hs : sumH (xs.take (k + 1)) = plusH (sumH (xs.take k)) (xs.getD k 0) := by rw [take_step xs (by rw [HN.out]; exact hlt), sumH_snoc]
      have HS := hide hs
      clear hs
      have CP := fun w => refplus_any (sumH (xs.take k)) (xs.getD k 0) s0 s1 x0 x1 w
      generalize xs.getD k 0 = x at *
      go_wp2_with (go_at_call 76; (with_reducible refine (CP _).mono ?_); rintro e w1 ⟨rfl, rfl⟩)
      go_round
      case rel => exact ⟨k + 1, by omega, by go_num, by rw [HS.out]⟩
      case measure => simp [intOf]; omega
    · obtain rfl : k = n := by omega
      have e : xs.take k = xs := List.take_of_length_le (by rw [HN.out]; exact Nat.le_refl _)
      have HE := hide e
      clear e
      go_wp2
      go_ret
      exact ⟨ret_i64 (by rw [HE.out]), rfl⟩
theorem refsizes_any (xs : List Int) (ad : Option Addr) (cap : Nat) (w : World) (hr : RowAt .i64 w ad xs) (hx : All64 xs) (hl : xs.length ≤ 9223372036854775807) :
    Calls Tryz.prog 53 #[.slice ad xs.length cap] w fun e w' => e = .returned (.int .i64 (sizeH xs)) ∧ w = w' := by
  have HR := hide hr
  have HX := hide hx
  clear hr hx
  obtain ⟨n, hn⟩ : ∃ n, xs.length = n := ⟨_, rfl⟩
  have HN := hide hn
  rw [hn] at hl ⊢
  clear hn
  go_enter Tryz.func53, Tryz.ntmps53
  go_wp2
  go_loop [3, 8] (fun s i => ∃ k : Nat, k ≤ n ∧ i = .int .i64 (k : Int) ∧ s = .int .i64 (sizeH (xs.take k))) (fun _ i => n - (intOf i).toNat)
  case atStart => exact ⟨0, by omega, rfl, rfl⟩
  case round =>
    obtain ⟨k, hk, rfl, rfl⟩ := hrel
    by_cases hlt : k < n
    · obtain ⟨b, off, rfl, hc⟩ := HR.out.get (show k < xs.length by rw [HN.out]; exact hlt)
      obtain ⟨x0, x1⟩ := HX.out k (by rw [HN.out]; exact hlt)
      obtain ⟨s0, s1⟩ := sizeH_in (xs.take k)
      have hs : sizeH (xs.take (k + 1)) = plusH (sizeH (xs.take k)) (absH (xs.getD k 0)) := by rw [take_step xs (by rw [HN.out]; exact hlt), sizeH_snoc]
      have HS := hide hs
      clear hs
      have CP := fun w => refplus_any (sizeH (xs.take k)) (absH (xs.getD k 0)) (by omega) s1 (holdI0 _) (holdI1 _) w
      have CA := fun w => refsizeH_any (xs.getD k 0) x0 x1 w
      generalize xs.getD k 0 = x at *
      go_wp2_with (first
        | (go_at_call 76; (with_reducible refine (CP _).mono ?_); rintro e w1 ⟨rfl, rfl⟩)
        | (go_at_call 70; (with_reducible refine (CA _).mono ?_); rintro e w1 ⟨rfl, rfl⟩))
      go_round
      case rel => exact ⟨k + 1, by omega, by go_num, by rw [HS.out]⟩
      case measure => simp [intOf]; omega
    · obtain rfl : k = n := by omega
      have e : xs.take k = xs := List.take_of_length_le (by rw [HN.out]; exact Nat.le_refl _)
      have HE := hide e
      clear e
      go_wp2
      go_ret
      exact ⟨ret_i64 (by rw [HE.out]), rfl⟩
end Go.Proofs.YtclgghhpiljgfaaGreatDoor

/- Lines of a table: plain lists. No number of the program stands in it. -/
namespace Go.Proofs.YtclgghhpiljgfaaGreatDoor


/-- An output sample's line: its first source sample, and its taps. -/
def lnAt (L : List (Int × List Int)) (j : Nat) : Int × List Int := L.getD j (0, [])
def LineOk (x : Int × List Int) : Prop := -1099511627776 ≤ x.1 ∧ x.1 ≤ 1099511627776 ∧ 1 ≤ x.2.length ∧ x.2.length ≤ 1048576 ∧ All64 x.2
def LinesOk (L : List (Int × List Int)) : Prop := ∀ j, j < L.length → LineOk (lnAt L j)
theorem lnAt_get {L : List (Int × List Int)} {j : Nat} (h : j < L.length) : lnAt L j = L[j] := by
  unfold lnAt; rw [List.getD_eq_getElem?_getD, List.getElem?_eq_getElem h]; rfl
theorem lnAt_old {L : List (Int × List Int)} (x : Int × List Int) {j : Nat} (h : j < L.length) : lnAt (L ++ [x]) j = lnAt L j := by
  unfold lnAt; rw [List.getD_eq_getElem?_getD, List.getD_eq_getElem?_getD, List.getElem?_append_left h]
theorem lnAt_new (L : List (Int × List Int)) (x : Int × List Int) : lnAt (L ++ [x]) L.length = x := by
  unfold lnAt; rw [List.getD_eq_getElem?_getD, List.getElem?_append_right (Nat.le_refl _), Nat.sub_self]; rfl
theorem lnAt_map (f : Nat → Int × List Int) {m j : Nat} (h : j < m) : lnAt ((List.range m).map f) j = f j := by
  rw [lnAt_get (by rw [List.length_map, List.length_range]; exact h)]
  rw [List.getElem_map, List.getElem_range]
/-! ### What some outputs take -/
def reachStep (s : Int × Int × Bool) (f : Int) (c : Nat) : Int × Int × Bool := if s.2.2 = true then (min s.1 f, max s.2.1 (f + (c : Int)), true) else (f, f + (c : Int), true)
def reachTo (L : List (Int × List Int)) (i k : Int) : Nat → Int × Int × Bool
  | 0 => (0, 0, false)
  | o + 1 => if (o : Int) < i ∨ k ≤ (o : Int) then reachTo L i k o else reachStep (reachTo L i k o) (lnAt L o).1 (lnAt L o).2.length
def reachF (L : List (Int × List Int)) (i k : Int) : Int × Int × Bool := reachTo L i k L.length
/-! ### The most taps, the greatest size -/
def mostTo (L : List (Int × List Int)) : Nat → Int
  | 0 => 0
  | o + 1 => max (mostTo L o) ((lnAt L o).2.length : Int)
def mostF (L : List (Int × List Int)) : Int := mostTo L L.length
def sizeTo (L : List (Int × List Int)) : Nat → Int
  | 0 => 0
  | o + 1 => max (sizeTo L o) (sizeH (lnAt L o).2)
def sizeF (L : List (Int × List Int)) : Int := sizeTo L L.length
end Go.Proofs.YtclgghhpiljgfaaGreatDoor

/- Weights that come to one: what is given, and to whom. -/
namespace Go.Proofs.YtclgghhpiljgfaaGreatDoor


def posSum (l : List Int) : Int := (l.map fun x => max x 0).sum
theorem posSum_none (l : List Int) (h : ∀ j, j < l.length → l.getD j 0 ≤ 0) : posSum l = 0 := by
  induction l with
  | nil => rfl
  | cons a l ih =>
    have a0 : a ≤ 0 := by have := h 0 (by simp); simpa using this
    have := ih (fun j hj => by have := h (j + 1) (by simpa using hj); simpa using this)
    unfold posSum at *
    simp only [List.map_cons, List.sum_cons]
    omega
theorem posSum_all (l : List Int) (h : ∀ j, j < l.length → 0 ≤ l.getD j 0) : posSum l = l.sum := by
  induction l with
  | nil => rfl
  | cons a l ih =>
    have a0 : 0 ≤ a := by have := h 0 (by simp); simpa using this
    have := ih (fun j hj => by have := h (j + 1) (by simpa using hj); simpa using this)
    unfold posSum at *
    simp only [List.map_cons, List.sum_cons]
    omega
theorem posSum_set (l : List Int) (i : Nat) (x : Int) (hi : i < l.length) : posSum (l.set i x) = posSum l - max (l.getD i 0) 0 + max x 0 := by
  unfold posSum
  rw [List.map_set, sum_set _ _ _ (by simpa using hi)]
  rw [List.getD_eq_getElem?_getD, List.getElem?_map, List.getD_eq_getElem?_getD, List.getElem?_eq_getElem hi]
  rfl
structure Setting (s : Int) (q r : List Int) (n lf : Nat) : Prop where
  n0 : 1 ≤ n
  s0 : 0 < s
  ql : q.length = n
  rl : r.length = n
  rin : ∀ j, j < n → 0 ≤ r.getD j 0 ∧ r.getD j 0 < s
  rsum : r.sum = (lf : Int) * s
structure Given (s : Int) (q r : List Int) (n lf m : Nat) : Prop where
  each : ∀ j, j < n → ((giveN q r m).2.getD j 0 = r.getD j 0 ∧ (giveN q r m).1.getD j 0 = q.getD j 0) ∨ ((giveN q r m).2.getD j 0 = -1 ∧ (giveN q r m).1.getD j 0 = q.getD j 0 + 1 ∧ 0 < r.getD j 0)
  rests : ((lf : Int) - m) * s ≤ posSum (giveN q r m).2
  sum : (giveN q r m).1.sum = q.sum + m
  order : ∀ i k, i < n → k < n → (giveN q r m).2.getD k 0 = -1 → (giveN q r m).2.getD i 0 ≠ -1 → r.getD i 0 ≤ r.getD k 0
theorem give_inv {s : Int} {q r : List Int} {n lf : Nat} (h : Setting s q r n lf) (m : Nat) (hm : m ≤ lf) : Given s q r n lf m := by
  induction m with
  | zero =>
    refine ⟨fun j _ => Or.inl ⟨rfl, rfl⟩, ?_, by simp [giveN], ?_⟩
    · rw [show (giveN q r 0).2 = r from rfl, posSum_all r (fun j hj => (h.rin j (by rw [← h.rl]; exact hj)).1), h.rsum]
      simp
    · intro i k hi hk hc _
      have := (h.rin k hk).1
      rw [show (giveN q r 0).2 = r from rfl] at hc
      omega
  | succ m ih =>
    have I := ih (by omega)
    obtain ⟨l1, l2⟩ := giveN_len q r m
    have e1 : (giveN q r (m + 1)).1 = (giveN q r m).1.set (bestTo (giveN q r m).2 (giveN q r m).2.length) ((giveN q r m).1.getD (bestTo (giveN q r m).2 (giveN q r m).2.length) 0 + 1) := rfl
    have e2 : (giveN q r (m + 1)).2 = (giveN q r m).2.set (bestTo (giveN q r m).2 (giveN q r m).2.length) (-1) := rfl
    obtain ⟨each, rests, sum, order⟩ := I
    rw [h.ql] at l1
    rw [h.rl] at l2
    have bl := bestTo_lt (giveN q r m).2 (giveN q r m).2.length
    have bm := bestTo_max (giveN q r m).2 (giveN q r m).2.length
    rw [l2] at bl bm e1 e2
    generalize (giveN q r m).1 = O at *
    generalize (giveN q r m).2 = R at *
    obtain ⟨b, hb⟩ : ∃ b, bestTo R n = b := ⟨_, rfl⟩
    rw [hb] at bl bm e1 e2
    have n0 := h.n0
    have b1 : b < n := by omega
    -- the greatest rest is above nought
    have pos : 0 < R.getD b 0 := by
      by_cases g : 0 < R.getD b 0
      · exact g
      · exfalso
        have z := posSum_none R (fun j hj => by have := bm j (by omega); omega)
        have s0 := h.s0
        have : s ≤ ((lf : Int) - m) * s := by
          have := Int.mul_le_mul_of_nonneg_right (show (1 : Int) ≤ (lf : Int) - m by omega) (show 0 ≤ s by omega)
          omega
        omega
    have eb := each b b1
    have ub : R.getD b 0 = r.getD b 0 ∧ O.getD b 0 = q.getD b 0 := by
      rcases eb with g | g
      · exact g
      · omega
    have g2 : ∀ j, (giveN q r (m + 1)).2.getD j 0 = if b = j then -1 else R.getD j 0 := fun j => by rw [e2]; exact getD_set R b j (-1) (by omega)
    have g1 : ∀ j, (giveN q r (m + 1)).1.getD j 0 = if b = j then O.getD b 0 + 1 else O.getD j 0 := fun j => by rw [e1]; exact getD_set O b j _ (by omega)
    refine ⟨?_, ?_, ?_, ?_⟩
    · intro j hj
      rw [g1, g2]
      by_cases e : b = j
      · subst e
        rw [if_pos rfl, if_pos rfl]
        exact Or.inr ⟨rfl, by omega, by omega⟩
      · rw [if_neg e, if_neg e]
        exact each j hj
    · rw [e2, posSum_set R b (-1) (by omega)]
      have := (h.rin b b1).2
      have e : ((lf : Int) - (m + 1 : Nat)) * s = ((lf : Int) - m) * s - s := by
        rw [show (lf : Int) - (m + 1 : Nat) = ((lf : Int) - m) - 1 by omega, Int.sub_mul ((lf : Int) - m) 1, Int.one_mul]
      rw [e]
      omega
    · rw [e1, sum_set O b _ (by omega), sum]
      omega
    · intro i k hi hk hc hu
      rw [g2] at hc hu
      by_cases ei : b = i
      · rw [if_pos ei] at hu; omega
      · rw [if_neg ei] at hu
        have vi : R.getD i 0 = r.getD i 0 := by
          rcases each i hi with g | g
          · exact g.1
          · omega
        by_cases ek : b = k
        · subst ek
          have := bm i (by omega)
          omega
        · rw [if_neg ek] at hc
          exact order i k hi hk hc hu
theorem getD_map (f : Int → Int) (l : List Int) {j : Nat} (h : j < l.length) : (l.map f).getD j 0 = f (l.getD j 0) := by
  rw [List.getD_eq_getElem?_getD, List.getElem?_map, List.getD_eq_getElem?_getD, List.getElem?_eq_getElem h]; rfl
theorem mem_getD {l : List Int} {P : Int → Prop} (h : ∀ x ∈ l, P x) {j : Nat} (hj : j < l.length) : P (l.getD j 0) := by
  rw [List.getD_eq_getElem?_getD, List.getElem?_eq_getElem hj]
  exact h _ (List.getElem_mem hj)
theorem getD_mem {l : List Int} {P : Int → Prop} (h : ∀ j, j < l.length → P (l.getD j 0)) : ∀ x ∈ l, P x := by
  intro x hx
  obtain ⟨j, hj, rfl⟩ := List.getElem_of_mem hx
  have := h j hj
  rw [List.getD_eq_getElem?_getD, List.getElem?_eq_getElem hj] at this
  exact this
/-- Rests come to what lacks. -/
theorem rests_sum (s : Int) (l : List Int) : (restsW s l).sum = l.sum * 16384 - (quotsW s l).sum * s := by
  induction l with
  | nil => simp [restsW, quotsW]
  | cons a l ih =>
    unfold restsW quotsW at *
    simp only [List.map_cons, List.sum_cons]
    rw [ih]
    unfold restW
    rw [Int.add_mul, Int.add_mul]
    omega
structure Fits (l : List Int) : Prop where
  n0 : 1 ≤ l.length
  n1 : l.length ≤ 1048576
  small : ∀ x ∈ l, smallW x
  s0 : 268435456 ≤ sumH l
theorem fits_setting {l : List Int} (h : Fits l) : Setting (sumH l) (quotsW (sumH l) l) (restsW (sumH l) l) l.length (leftW (sumH l) l).toNat ∧ 0 ≤ leftW (sumH l) l ∧ leftW (sumH l) l < l.length := by
  obtain ⟨n0, n1, sm, s0⟩ := h
  obtain ⟨es, e0, e1⟩ := sumH_small l sm n1
  have rin : ∀ j, j < l.length → 0 ≤ (restsW (sumH l) l).getD j 0 ∧ (restsW (sumH l) l).getD j 0 < sumH l := by
    intro j hj
    unfold restsW
    rw [getD_map _ _ hj]
    obtain ⟨_, _, a, b, _⟩ := quotW_at (s := sumH l) (by omega) (mem_getD sm hj)
    exact ⟨a, b⟩
  have rs : (restsW (sumH l) l).sum = leftW (sumH l) l * sumH l := by
    rw [rests_sum]
    unfold leftW
    rw [Int.sub_mul, es]
    omega
  have rl : (restsW (sumH l) l).length = l.length := by unfold restsW; simp
  have up : ∀ (r : List Int), (∀ j, j < r.length → 0 ≤ r.getD j 0 ∧ r.getD j 0 < sumH l) → 0 ≤ r.sum ∧ (1 ≤ r.length → r.sum < (r.length : Int) * sumH l) := by
    intro r
    induction r with
    | nil => intro _; simp
    | cons a r ih =>
      intro hr
      have a0 := hr 0 (by simp)
      simp only [List.getD_cons_zero] at a0
      obtain ⟨c0, c1⟩ := ih (fun j hj => by have := hr (j + 1) (by simpa using hj); simpa using this)
      simp only [List.sum_cons, List.length_cons]
      refine ⟨by omega, fun _ => ?_⟩
      rw [show ((r.length + 1 : Nat) : Int) = (r.length : Int) + 1 by omega, Int.add_mul, Int.one_mul]
      rcases Nat.eq_zero_or_pos r.length with z | z
      · have : r = [] := List.eq_nil_of_length_eq_zero z
        subst this; simp; omega
      · have := c1 z; omega
  obtain ⟨u0, u1⟩ := up (restsW (sumH l) l) (by rw [rl]; exact rin)
  rw [rs] at u0 u1
  rw [rl] at u1
  have l0 : 0 ≤ leftW (sumH l) l := by
    by_cases g : 0 ≤ leftW (sumH l) l
    · exact g
    · exfalso
      have := Int.mul_le_mul_of_nonneg_right (show leftW (sumH l) l ≤ -1 by omega) (show 0 ≤ sumH l by omega)
      omega
  refine ⟨⟨n0, by omega, by unfold quotsW; simp, rl, rin, ?_⟩, l0, ?_⟩
  · rw [rs, show (((leftW (sumH l) l).toNat : Nat) : Int) = leftW (sumH l) l by omega]
  · by_cases g : leftW (sumH l) l < l.length
    · exact g
    · exfalso
      have := Int.mul_le_mul_of_nonneg_right (show (l.length : Int) ≤ leftW (sumH l) l by omega) (show 0 ≤ sumH l by omega)
      have := u1 n0
      omega
/-- What taps are. -/
theorem app_facts {l : List Int} (h : Fits l) :
    (appR l).length = l.length ∧ (appR l).sum = 16384 ∧
    (∀ j, j < l.length → (appR l).getD j 0 = quotW (sumH l) (l.getD j 0) ∨ ((appR l).getD j 0 = quotW (sumH l) (l.getD j 0) + 1 ∧ 0 < restW (sumH l) (l.getD j 0))) ∧
    (∀ i k, i < l.length → k < l.length → l.getD k 0 < l.getD i 0 → (appR l).getD k 0 ≤ (appR l).getD i 0) := by
  obtain ⟨S, l0, l1⟩ := fits_setting h
  have G := give_inv S _ (Nat.le_refl _)
  obtain ⟨n0, n1, sm, s0⟩ := h
  obtain ⟨each, _, sum, order⟩ := G
  obtain ⟨la, lb⟩ := giveN_len (quotsW (sumH l) l) (restsW (sumH l) l) (leftW (sumH l) l).toNat
  have eq : ∀ j, j < l.length → (quotsW (sumH l) l).getD j 0 = quotW (sumH l) (l.getD j 0) := fun j hj => getD_map _ _ hj
  have er : ∀ j, j < l.length → (restsW (sumH l) l).getD j 0 = restW (sumH l) (l.getD j 0) := fun j hj => getD_map _ _ hj
  have len : (appR l).length = l.length := by unfold appR; rw [la]; unfold quotsW; simp
  refine ⟨len, ?_, ?_, ?_⟩
  · have : leftW (sumH l) l = 16384 - (quotsW (sumH l) l).sum := rfl
    unfold appR; rw [sum]; omega
  · intro j hj
    have := each j hj
    rw [eq j hj, er j hj] at this
    rcases this with g | g
    · exact Or.inl g.2
    · exact Or.inr ⟨g.2.1, g.2.2⟩
  · intro i k hi hk hlt
    obtain ⟨qi, ri, ri0, ri1, _⟩ := quotW_at (s := sumH l) (by omega) (mem_getD sm hi)
    obtain ⟨qk, rk, rk0, rk1, _⟩ := quotW_at (s := sumH l) (by omega) (mem_getD sm hk)
    have E1 := each i hi
    have E2 := each k hk
    have O := order i k hi hk
    rw [eq i hi, er i hi] at E1
    rw [eq k hk, er k hk] at E2
    rw [er i hi, er k hk] at O
    have mono : quotW (sumH l) (l.getD k 0) ≤ quotW (sumH l) (l.getD i 0) := by
      rw [qi, qk]; exact Int.ediv_le_ediv (by omega) (by omega)
    unfold appR
    generalize (giveN (quotsW (sumH l) l) (restsW (sumH l) l) (leftW (sumH l) l).toNat).1.getD i 0 = Ti at *
    generalize (giveN (quotsW (sumH l) l) (restsW (sumH l) l) (leftW (sumH l) l).toNat).1.getD k 0 = Tk at *
    by_cases e : quotW (sumH l) (l.getD k 0) = quotW (sumH l) (l.getD i 0)
    · have d : restW (sumH l) (l.getD k 0) < restW (sumH l) (l.getD i 0) := by
        unfold restW
        rw [e]; omega
      rcases E1 with ⟨a1, a2⟩ | ⟨a1, a2, a3⟩
      · rcases E2 with ⟨b1, b2⟩ | ⟨b1, b2, b3⟩
        · omega
        · have := O b1 (by omega)
          omega
      · rcases E2 with ⟨b1, b2⟩ | ⟨b1, b2, b3⟩ <;> omega
    · rcases E1 with ⟨a1, a2⟩ | ⟨a1, a2, a3⟩ <;> rcases E2 with ⟨b1, b2⟩ | ⟨b1, b2, b3⟩ <;> omega
end Go.Proofs.YtclgghhpiljgfaaGreatDoor
