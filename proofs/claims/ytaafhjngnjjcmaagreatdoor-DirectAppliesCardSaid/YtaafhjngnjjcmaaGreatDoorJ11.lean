/- Parts, joined. -/
import Derived.Test.YtaafhjngnjjcmaaGreatDoorJ01
import Derived.Test.YtaafhjngnjjcmaaGreatDoorJ10
import Derived.Test.YtaafhjngnjjcmaaGreatDoorJ04
import Derived.Deep.LoopGhost
/- Weights that come to one: what is given, and to whom. -/
namespace Go.Proofs.YtaafhjngnjjcmaaGreatDoor


def posSum (l : List Int) : Int := (l.map fun x => max x 0).sum
theorem posSum_none (l : List Int) (h : ∀ j, j < l.length → l.getD j 0 ≤ 0) : posSum l = 0 := by
  induction l with
  | nil => rfl
  | cons a l ih =>
    have a0 : a ≤ 0 := by have := h 0 (by simp); simpa using this
    have := ih (fun j hj => by have := h (j + 1) (by simpa using hj); simpa using this)
    unfold posSum at *
    simp only [List.map_cons, List.sum_cons]
    omega
theorem posSum_all (l : List Int) (h : ∀ j, j < l.length → 0 ≤ l.getD j 0) : posSum l = l.sum := by
  induction l with
  | nil => rfl
  | cons a l ih =>
    have a0 : 0 ≤ a := by have := h 0 (by simp); simpa using this
    have := ih (fun j hj => by have := h (j + 1) (by simpa using hj); simpa using this)
    unfold posSum at *
    simp only [List.map_cons, List.sum_cons]
    omega
theorem posSum_set (l : List Int) (i : Nat) (x : Int) (hi : i < l.length) : posSum (l.set i x) = posSum l - max (l.getD i 0) 0 + max x 0 := by
  unfold posSum
  rw [List.map_set, sum_set _ _ _ (by simpa using hi)]
  rw [List.getD_eq_getElem?_getD, List.getElem?_map, List.getD_eq_getElem?_getD, List.getElem?_eq_getElem hi]
  rfl
structure Setting (s : Int) (q r : List Int) (n lf : Nat) : Prop where
  n0 : 1 ≤ n
  s0 : 0 < s
  ql : q.length = n
  rl : r.length = n
  rin : ∀ j, j < n → 0 ≤ r.getD j 0 ∧ r.getD j 0 < s
  rsum : r.sum = (lf : Int) * s
structure Given (s : Int) (q r : List Int) (n lf m : Nat) : Prop where
  each : ∀ j, j < n → ((giveN q r m).2.getD j 0 = r.getD j 0 ∧ (giveN q r m).1.getD j 0 = q.getD j 0) ∨ ((giveN q r m).2.getD j 0 = -1 ∧ (giveN q r m).1.getD j 0 = q.getD j 0 + 1 ∧ 0 < r.getD j 0)
  rests : ((lf : Int) - m) * s ≤ posSum (giveN q r m).2
  sum : (giveN q r m).1.sum = q.sum + m
  order : ∀ i k, i < n → k < n → (giveN q r m).2.getD k 0 = -1 → (giveN q r m).2.getD i 0 ≠ -1 → r.getD i 0 ≤ r.getD k 0
theorem give_inv {s : Int} {q r : List Int} {n lf : Nat} (h : Setting s q r n lf) (m : Nat) (hm : m ≤ lf) : Given s q r n lf m := by
  induction m with
  | zero =>
    refine ⟨fun j _ => Or.inl ⟨rfl, rfl⟩, ?_, by simp [giveN], ?_⟩
    · rw [show (giveN q r 0).2 = r from rfl, posSum_all r (fun j hj => (h.rin j (by rw [← h.rl]; exact hj)).1), h.rsum]
      simp
    · intro i k hi hk hc _
      have := (h.rin k hk).1
      rw [show (giveN q r 0).2 = r from rfl] at hc
      omega
  | succ m ih =>
    have I := ih (by omega)
    obtain ⟨l1, l2⟩ := giveN_len q r m
    have e1 : (giveN q r (m + 1)).1 = (giveN q r m).1.set (bestTo (giveN q r m).2 (giveN q r m).2.length) ((giveN q r m).1.getD (bestTo (giveN q r m).2 (giveN q r m).2.length) 0 + 1) := rfl
    have e2 : (giveN q r (m + 1)).2 = (giveN q r m).2.set (bestTo (giveN q r m).2 (giveN q r m).2.length) (-1) := rfl
    obtain ⟨each, rests, sum, order⟩ := I
    rw [h.ql] at l1
    rw [h.rl] at l2
    have bl := bestTo_lt (giveN q r m).2 (giveN q r m).2.length
    have bm := bestTo_max (giveN q r m).2 (giveN q r m).2.length
    rw [l2] at bl bm e1 e2
    generalize (giveN q r m).1 = O at *
    generalize (giveN q r m).2 = R at *
    obtain ⟨b, hb⟩ : ∃ b, bestTo R n = b := ⟨_, rfl⟩
    rw [hb] at bl bm e1 e2
    have n0 := h.n0
    have b1 : b < n := by omega
    -- the greatest rest is above nought
    have pos : 0 < R.getD b 0 := by
      by_cases g : 0 < R.getD b 0
      · exact g
      · exfalso
        have z := posSum_none R (fun j hj => by have := bm j (by omega); omega)
        have s0 := h.s0
        have : s ≤ ((lf : Int) - m) * s := by
          have := Int.mul_le_mul_of_nonneg_right (show (1 : Int) ≤ (lf : Int) - m by omega) (show 0 ≤ s by omega)
          omega
        omega
    have eb := each b b1
    have ub : R.getD b 0 = r.getD b 0 ∧ O.getD b 0 = q.getD b 0 := by
      rcases eb with g | g
      · exact g
      · omega
    have g2 : ∀ j, (giveN q r (m + 1)).2.getD j 0 = if b = j then -1 else R.getD j 0 := fun j => by rw [e2]; exact getD_set R b j (-1) (by omega)
    have g1 : ∀ j, (giveN q r (m + 1)).1.getD j 0 = if b = j then O.getD b 0 + 1 else O.getD j 0 := fun j => by rw [e1]; exact getD_set O b j _ (by omega)
    refine ⟨?_, ?_, ?_, ?_⟩
    · intro j hj
      rw [g1, g2]
      by_cases e : b = j
      · subst e
        rw [if_pos rfl, if_pos rfl]
        exact Or.inr ⟨rfl, by omega, by omega⟩
      · rw [if_neg e, if_neg e]
        exact each j hj
    · rw [e2, posSum_set R b (-1) (by omega)]
      have := (h.rin b b1).2
      have e : ((lf : Int) - (m + 1 : Nat)) * s = ((lf : Int) - m) * s - s := by
        rw [show (lf : Int) - (m + 1 : Nat) = ((lf : Int) - m) - 1 by omega, Int.sub_mul ((lf : Int) - m) 1, Int.one_mul]
      rw [e]
      omega
    · rw [e1, sum_set O b _ (by omega), sum]
      omega
    · intro i k hi hk hc hu
      rw [g2] at hc hu
      by_cases ei : b = i
      · rw [if_pos ei] at hu; omega
      · rw [if_neg ei] at hu
        have vi : R.getD i 0 = r.getD i 0 := by
          rcases each i hi with g | g
          · exact g.1
          · omega
        by_cases ek : b = k
        · subst ek
          have := bm i (by omega)
          omega
        · rw [if_neg ek] at hc
          exact order i k hi hk hc hu
theorem getD_map (f : Int → Int) (l : List Int) {j : Nat} (h : j < l.length) : (l.map f).getD j 0 = f (l.getD j 0) := by
  rw [List.getD_eq_getElem?_getD, List.getElem?_map, List.getD_eq_getElem?_getD, List.getElem?_eq_getElem h]; rfl
theorem mem_getD {l : List Int} {P : Int → Prop} (h : ∀ x ∈ l, P x) {j : Nat} (hj : j < l.length) : P (l.getD j 0) := by
  rw [List.getD_eq_getElem?_getD, List.getElem?_eq_getElem hj]
  exact h _ (List.getElem_mem hj)
theorem getD_mem {l : List Int} {P : Int → Prop} (h : ∀ j, j < l.length → P (l.getD j 0)) : ∀ x ∈ l, P x := by
  intro x hx
  obtain ⟨j, hj, rfl⟩ := List.getElem_of_mem hx
  have := h j hj
  rw [List.getD_eq_getElem?_getD, List.getElem?_eq_getElem hj] at this
  exact this
/-- Rests come to what lacks. -/
theorem rests_sum (s : Int) (l : List Int) : (restsW s l).sum = l.sum * 16384 - (quotsW s l).sum * s := by
  induction l with
  | nil => simp [restsW, quotsW]
  | cons a l ih =>
    unfold restsW quotsW at *
    simp only [List.map_cons, List.sum_cons]
    rw [ih]
    unfold restW
    rw [Int.add_mul, Int.add_mul]
    omega
structure Fits (l : List Int) : Prop where
  n0 : 1 ≤ l.length
  n1 : l.length ≤ 1048576
  small : ∀ x ∈ l, smallW x
  s0 : 268435456 ≤ sumH l
theorem fits_setting {l : List Int} (h : Fits l) : Setting (sumH l) (quotsW (sumH l) l) (restsW (sumH l) l) l.length (leftW (sumH l) l).toNat ∧ 0 ≤ leftW (sumH l) l ∧ leftW (sumH l) l < l.length := by
  obtain ⟨n0, n1, sm, s0⟩ := h
  obtain ⟨es, e0, e1⟩ := sumH_small l sm n1
  have rin : ∀ j, j < l.length → 0 ≤ (restsW (sumH l) l).getD j 0 ∧ (restsW (sumH l) l).getD j 0 < sumH l := by
    intro j hj
    unfold restsW
    rw [getD_map _ _ hj]
    obtain ⟨_, _, a, b, _⟩ := quotW_at (s := sumH l) (by omega) (mem_getD sm hj)
    exact ⟨a, b⟩
  have rs : (restsW (sumH l) l).sum = leftW (sumH l) l * sumH l := by
    rw [rests_sum]
    unfold leftW
    rw [Int.sub_mul, es]
    omega
  have rl : (restsW (sumH l) l).length = l.length := by unfold restsW; simp
  have up : ∀ (r : List Int), (∀ j, j < r.length → 0 ≤ r.getD j 0 ∧ r.getD j 0 < sumH l) → 0 ≤ r.sum ∧ (1 ≤ r.length → r.sum < (r.length : Int) * sumH l) := by
    intro r
    induction r with
    | nil => intro _; simp
    | cons a r ih =>
      intro hr
      have a0 := hr 0 (by simp)
      simp only [List.getD_cons_zero] at a0
      obtain ⟨c0, c1⟩ := ih (fun j hj => by have := hr (j + 1) (by simpa using hj); simpa using this)
      simp only [List.sum_cons, List.length_cons]
      refine ⟨by omega, fun _ => ?_⟩
      rw [show ((r.length + 1 : Nat) : Int) = (r.length : Int) + 1 by omega, Int.add_mul, Int.one_mul]
      rcases Nat.eq_zero_or_pos r.length with z | z
      · have : r = [] := List.eq_nil_of_length_eq_zero z
        subst this; simp; omega
      · have := c1 z; omega
  obtain ⟨u0, u1⟩ := up (restsW (sumH l) l) (by rw [rl]; exact rin)
  rw [rs] at u0 u1
  rw [rl] at u1
  have l0 : 0 ≤ leftW (sumH l) l := by
    by_cases g : 0 ≤ leftW (sumH l) l
    · exact g
    · exfalso
      have := Int.mul_le_mul_of_nonneg_right (show leftW (sumH l) l ≤ -1 by omega) (show 0 ≤ sumH l by omega)
      omega
  refine ⟨⟨n0, by omega, by unfold quotsW; simp, rl, rin, ?_⟩, l0, ?_⟩
  · rw [rs, show (((leftW (sumH l) l).toNat : Nat) : Int) = leftW (sumH l) l by omega]
  · by_cases g : leftW (sumH l) l < l.length
    · exact g
    · exfalso
      have := Int.mul_le_mul_of_nonneg_right (show (l.length : Int) ≤ leftW (sumH l) l by omega) (show 0 ≤ sumH l by omega)
      have := u1 n0
      omega
/-- What taps are. -/
theorem app_facts {l : List Int} (h : Fits l) :
    (appR l).length = l.length ∧ (appR l).sum = 16384 ∧
    (∀ j, j < l.length → (appR l).getD j 0 = quotW (sumH l) (l.getD j 0) ∨ ((appR l).getD j 0 = quotW (sumH l) (l.getD j 0) + 1 ∧ 0 < restW (sumH l) (l.getD j 0))) ∧
    (∀ i k, i < l.length → k < l.length → l.getD k 0 < l.getD i 0 → (appR l).getD k 0 ≤ (appR l).getD i 0) := by
  obtain ⟨S, l0, l1⟩ := fits_setting h
  have G := give_inv S _ (Nat.le_refl _)
  obtain ⟨n0, n1, sm, s0⟩ := h
  obtain ⟨each, _, sum, order⟩ := G
  obtain ⟨la, lb⟩ := giveN_len (quotsW (sumH l) l) (restsW (sumH l) l) (leftW (sumH l) l).toNat
  have eq : ∀ j, j < l.length → (quotsW (sumH l) l).getD j 0 = quotW (sumH l) (l.getD j 0) := fun j hj => getD_map _ _ hj
  have er : ∀ j, j < l.length → (restsW (sumH l) l).getD j 0 = restW (sumH l) (l.getD j 0) := fun j hj => getD_map _ _ hj
  have len : (appR l).length = l.length := by unfold appR; rw [la]; unfold quotsW; simp
  refine ⟨len, ?_, ?_, ?_⟩
  · have : leftW (sumH l) l = 16384 - (quotsW (sumH l) l).sum := rfl
    unfold appR; rw [sum]; omega
  · intro j hj
    have := each j hj
    rw [eq j hj, er j hj] at this
    rcases this with g | g
    · exact Or.inl g.2
    · exact Or.inr ⟨g.2.1, g.2.2⟩
  · intro i k hi hk hlt
    obtain ⟨qi, ri, ri0, ri1, _⟩ := quotW_at (s := sumH l) (by omega) (mem_getD sm hi)
    obtain ⟨qk, rk, rk0, rk1, _⟩ := quotW_at (s := sumH l) (by omega) (mem_getD sm hk)
    have E1 := each i hi
    have E2 := each k hk
    have O := order i k hi hk
    rw [eq i hi, er i hi] at E1
    rw [eq k hk, er k hk] at E2
    rw [er i hi, er k hk] at O
    have mono : quotW (sumH l) (l.getD k 0) ≤ quotW (sumH l) (l.getD i 0) := by
      rw [qi, qk]; exact Int.ediv_le_ediv (by omega) (by omega)
    unfold appR
    generalize (giveN (quotsW (sumH l) l) (restsW (sumH l) l) (leftW (sumH l) l).toNat).1.getD i 0 = Ti at *
    generalize (giveN (quotsW (sumH l) l) (restsW (sumH l) l) (leftW (sumH l) l).toNat).1.getD k 0 = Tk at *
    by_cases e : quotW (sumH l) (l.getD k 0) = quotW (sumH l) (l.getD i 0)
    · have d : restW (sumH l) (l.getD k 0) < restW (sumH l) (l.getD i 0) := by
        unfold restW
        rw [e]; omega
      rcases E1 with ⟨a1, a2⟩ | ⟨a1, a2, a3⟩
      · rcases E2 with ⟨b1, b2⟩ | ⟨b1, b2, b3⟩
        · omega
        · have := O b1 (by omega)
          omega
      · rcases E2 with ⟨b1, b2⟩ | ⟨b1, b2, b3⟩ <;> omega
    · rcases E1 with ⟨a1, a2⟩ | ⟨a1, a2, a3⟩ <;> rcases E2 with ⟨b1, b2⟩ | ⟨b1, b2, b3⟩ <;> omega
end Go.Proofs.YtaafhjngnjjcmaaGreatDoor

/- Weights that come to one: the document's taps of raw weights. -/
namespace Go.Proofs.YtaafhjngnjjcmaaGreatDoor
open Go.RowKit


theorem infoI64A : (Tryz.prog.info? 2).map (fun i => (i.zero, i.size, i.bytes)) = some (some (.int .i64 0), 1, 8) := by kernel_rfl
theorem absH_small {x : Int} (h0 : -9223372036854775808 ≤ x) (h1 : x ≤ 9223372036854775807) : absH x ≤ 1099511627776 ↔ smallW x := by
  unfold absH smallW absI holdI
  split <;> (try split) <;> (try split) <;> omega
/-- Too few, or too many. -/
theorem refapp_len (xs : List Int) (ad : Option Addr) (cap : Nat) (w : World) (hl : xs.length ≤ 9223372036854775807) (h : xs.length < 1 ∨ 1048576 < xs.length) :
    Calls Tryz.prog 124 #[.slice ad xs.length cap] w fun e w' => e = .returned (.tuple #[.slice none 0 0, .int .i64 7]) ∧ Below w.heap.size w w' := by
  generalize xs.length = n at *
  rcases h with h | h
  · obtain rfl : n = 0 := by omega
    go_enter Tryz.func124, Tryz.ntmps124
    go_wp2
    exact bodyPost_ret (v := .tuple #[.slice none 0 0, .int .i64 7]) (by simp [results, Tryz.results124, go_sem]) rfl ⟨rfl, Below.refl _ _⟩
  · have h0 : ¬ ((n : Int) < 1) := by omega
    have h2 : (1048576 : Int) < (n : Int) := by omega
    go_enter Tryz.func124, Tryz.ntmps124
    go_wp2
    exact bodyPost_ret (v := .tuple #[.slice none 0 0, .int .i64 7]) (by simp [results, Tryz.results124, go_sem]) rfl ⟨rfl, Below.refl _ _⟩
/-- One that is too great. -/
theorem refapp_big (xs : List Int) (ad : Option Addr) (cap : Nat) (w : World) (hr : RowAt .i64 w ad xs) (hx : All64 xs) (h0 : 1 ≤ xs.length) (h1 : xs.length ≤ 1048576) (h : ¬ ∀ x ∈ xs, smallW x) :
    Calls Tryz.prog 124 #[.slice ad xs.length cap] w fun e w' => e = .returned (.tuple #[.slice none 0 0, .int .i64 7]) ∧ Below w.heap.size w w' := by
  have HR := hide hr
  have HX := hide hx
  have HH := hide h
  clear hr hx h
  obtain ⟨n, hn⟩ : ∃ n, xs.length = n := ⟨_, rfl⟩
  have HN := hide hn
  rw [hn] at h0 h1 ⊢
  clear hn
  go_enter Tryz.func124, Tryz.ntmps124
  go_wp2
  go_loop [25] (fun i => ∃ k : Nat, k ≤ n ∧ i = .int .i64 (k : Int) ∧ ∀ j, j < k → smallW (xs.getD j 0)) (fun i => n - (intOf i).toNat)
  case atStart => exact ⟨0, by omega, rfl, fun j hj => absurd hj (Nat.not_lt_zero _)⟩
  case round =>
    obtain ⟨k, hk, rfl, hs⟩ := hrel
    have HS := hide hs
    clear hs
    by_cases hlt : k < n
    · obtain ⟨b, off, rfl, hc⟩ := HR.out.get (show k < xs.length by rw [HN.out]; exact hlt)
      obtain ⟨x0, x1⟩ := HX.out k (by rw [HN.out]; exact hlt)
      have CA := fun w => refsizeH_any (xs.getD k 0) x0 x1 w
      have I := absH_small x0 x1
      by_cases g : smallW (xs.getD k 0)
      · have g2 := I.2 g
        have HG := hide g
        clear g I
        generalize hx : xs.getD k 0 = x at hc x0 x1 CA g2
        have HXX := hide hx
        clear hx
        generalize absH x = y at *
        go_wp2_with (go_at_call 144; (with_reducible refine (CA _).mono ?_); rintro e w1 ⟨rfl, rfl⟩)
        go_round
        case rel => exact ⟨k + 1, by omega, by go_num, fun j hj => by
          by_cases e : j = k
          · subst e; exact HG.out
          · exact HS.out j (by omega)⟩
        case measure => simp [intOf]; omega
      · have g2 : 1099511627776 < absH (xs.getD k 0) := by
          by_cases q : absH (xs.getD k 0) ≤ 1099511627776
          · exact absurd (I.1 q) g
          · omega
        clear g I
        generalize xs.getD k 0 = x at hc x0 x1 CA g2
        generalize absH x = y at *
        go_wp2_with (go_at_call 144; (with_reducible refine (CA _).mono ?_); rintro e w1 ⟨rfl, rfl⟩)
        exact bodyPost_ret (v := .tuple #[.slice none 0 0, .int .i64 7]) (by simp [results, Tryz.results124, go_sem]) rfl ⟨rfl, Below.refl _ _⟩
    · exfalso
      exact HH.out (getD_mem fun j hj => HS.out j (by rw [HN.out] at hj; omega))
theorem quotsW_snoc (s : Int) (l : List Int) (x : Int) : quotsW s (l ++ [x]) = quotsW s l ++ [quotW s x] := by unfold quotsW; rw [List.map_append]; rfl
theorem restsW_snoc (s : Int) (l : List Int) (x : Int) : restsW s (l ++ [x]) = restsW s l ++ [restW s x] := by unfold restsW; rw [List.map_append]; rfl
theorem quotsW_len (s : Int) (l : List Int) : (quotsW s l).length = l.length := by unfold quotsW; simp
theorem restsW_len (s : Int) (l : List Int) : (restsW s l).length = l.length := by unfold restsW; simp
theorem quotW_small {s x : Int} (s0 : 268435456 ≤ s) (h : smallW x) : -67108864 ≤ quotW s x ∧ quotW s x ≤ 67108864 ∧ 0 ≤ x * 16384 - quotW s x * s ∧ x * 16384 - quotW s x * s < s := by
  obtain ⟨q, _, r0, r1, _⟩ := quotW_at (s := s) (by omega) h
  unfold smallW at h
  have up : x * 16384 / s ≤ 67108864 := by
    have : x * 16384 / s < 67108865 := Int.ediv_lt_of_lt_mul (by omega) (by
      have := Int.mul_le_mul_of_nonneg_left s0 (show (0 : Int) ≤ 67108865 by omega)
      omega)
    omega
  have dn : -67108864 ≤ x * 16384 / s := by
    apply Int.le_ediv_of_mul_le (by omega)
    have := Int.mul_le_mul_of_nonneg_left s0 (show (0 : Int) ≤ 67108864 by omega)
    rw [Int.neg_mul]
    omega
  refine ⟨by omega, by omega, ?_, ?_⟩
  · have : restW s x = x * 16384 - quotW s x * s := rfl
    omega
  · have : restW s x = x * 16384 - quotW s x * s := rfl
    omega
theorem quots_in {s : Int} (s0 : 268435456 ≤ s) (l : List Int) (h : ∀ x ∈ l, smallW x) : -((l.length : Int) * 67108864) ≤ (quotsW s l).sum ∧ (quotsW s l).sum ≤ (l.length : Int) * 67108864 := by
  induction l with
  | nil => simp [quotsW]
  | cons a l ih =>
    obtain ⟨c0, c1⟩ := ih (fun x hx => h x (by simp [hx]))
    obtain ⟨d0, d1, _⟩ := quotW_small s0 (h a (by simp))
    have e : (quotsW s (a :: l)).sum = quotW s a + (quotsW s l).sum := by unfold quotsW; simp
    rw [e, show ((a :: l).length : Int) = (l.length : Int) + 1 by simp]
    omega
/-- They come to too little. -/
theorem refapp_low (xs : List Int) (ad : Option Addr) (cap : Nat) (w : World) (hr : RowAt .i64 w ad xs) (hx : All64 xs) (h0 : 1 ≤ xs.length) (h1 : xs.length ≤ 1048576) (h : ∀ x ∈ xs, smallW x) (hs : sumH xs < 268435456) :
    Calls Tryz.prog 124 #[.slice ad xs.length cap] w fun e w' => e = .returned (.tuple #[.slice none 0 0, .int .i64 8]) ∧ Below w.heap.size w w' := by
  have CS := fun w hr => refsum_any xs ad cap w hr hx (by omega)
  have HR := hide hr
  have HX := hide hx
  have HH := hide h
  clear hr hx h
  obtain ⟨n, hn⟩ : ∃ n, xs.length = n := ⟨_, rfl⟩
  have HN := hide hn
  rw [hn] at h0 h1 CS ⊢
  generalize sumH xs = s at *
  clear hn
  go_enter Tryz.func124, Tryz.ntmps124
  go_wp2
  go_loop [25] (fun i => ∃ k : Nat, k ≤ n ∧ i = .int .i64 (k : Int)) (fun i => n - (intOf i).toNat)
  case atStart => exact ⟨0, by omega, rfl⟩
  case round =>
    obtain ⟨k, hk, rfl⟩ := hrel
    by_cases hlt : k < n
    · obtain ⟨b, off, rfl, hc⟩ := HR.out.get (show k < xs.length by rw [HN.out]; exact hlt)
      obtain ⟨x0, x1⟩ := HX.out k (by rw [HN.out]; exact hlt)
      have CA := fun w => refsizeH_any (xs.getD k 0) x0 x1 w
      have g2 := (absH_small x0 x1).2 (mem_getD HH.out (by rw [HN.out]; exact hlt))
      generalize xs.getD k 0 = x at hc x0 x1 CA g2
      generalize absH x = y at *
      go_wp2_with (go_at_call 144; (with_reducible refine (CA _).mono ?_); rintro e w1 ⟨rfl, rfl⟩)
      go_round
      case rel => exact ⟨k + 1, by omega, by go_num⟩
      case measure => simp [intOf]; omega
    · obtain rfl : k = n := by omega
      go_wp2_with (go_at_call 145; (with_reducible refine (CS _ HR.out).mono ?_); rintro e w1 ⟨rfl, rfl⟩)
      exact bodyPost_ret (v := .tuple #[.slice none 0 0, .int .i64 8]) (by simp [results, Tryz.results124, go_sem]) rfl ⟨rfl, Below.refl _ _⟩
set_option maxHeartbeats 4000000 in
set_option maxRecDepth 1000000 in
theorem refapp_fits (xs : List Int) (ad : Option Addr) (cap : Nat) (w : World) (hr : RowAt .i64 w ad xs) (hx : All64 xs) (hf : Fits xs) :
    Calls Tryz.prog 124 #[.slice ad xs.length cap] w fun e w' => ∃ v, e = .returned (.tuple #[v, .int .i64 0]) ∧ OwnI .i64 2 w' w.heap.size v (appR xs) ∧ Below w.heap.size w w' := by
  have HF := hide hf
  obtain ⟨h0, h1, h, s0⟩ := hf
  obtain ⟨i0, hi, hz0, hz1, hz2⟩ := info_parts infoI64A
  have CS := fun w hr => refsum_any xs ad cap w hr hx (by omega)
  have s1 := (sumH_in xs).2
  have HR := hide hr
  have HX := hide hx
  have HH := hide h
  clear hr hx h
  obtain ⟨n, hn⟩ : ∃ n, xs.length = n := ⟨_, rfl⟩
  have HN := hide hn
  rw [hn] at h0 h1 CS ⊢
  obtain ⟨s, hs⟩ : ∃ s, sumH xs = s := ⟨_, rfl⟩
  have HS := hide hs
  rw [hs] at s0 s1 CS
  have ub : s ≤ 1152921504606846976 := by
    obtain ⟨a, _, b⟩ := sumH_small xs HH.out (by omega)
    rw [← hs, a]
    rw [hn] at b
    omega
  clear hn hs
  go_enter Tryz.func124, Tryz.ntmps124
  go_wp2
  go_loop [25] (fun i => ∃ k : Nat, k ≤ n ∧ i = .int .i64 (k : Int)) (fun i => n - (intOf i).toNat)
  case atStart => exact ⟨0, by omega, rfl⟩
  case round =>
    obtain ⟨k, hk, rfl⟩ := hrel
    by_cases hlt : k < n
    · obtain ⟨b, off, rfl, hc⟩ := HR.out.get (show k < xs.length by rw [HN.out]; exact hlt)
      obtain ⟨x0, x1⟩ := HX.out k (by rw [HN.out]; exact hlt)
      have CA := fun w => refsizeH_any (xs.getD k 0) x0 x1 w
      have g2 := (absH_small x0 x1).2 (mem_getD HH.out (by rw [HN.out]; exact hlt))
      generalize xs.getD k 0 = x at hc x0 x1 CA g2
      generalize absH x = y at *
      go_wp2_with (go_at_call 144; (with_reducible refine (CA _).mono ?_); rintro e w1 ⟨rfl, rfl⟩)
      go_round
      case rel => exact ⟨k + 1, by omega, by go_num⟩
      case measure => simp [intOf]; omega
    · obtain rfl : k = n := by omega
      clear hlt hk
      go_wp2_with (go_at_call 145; (with_reducible refine (CS _ HR.out).mono ?_); rintro e w1 ⟨rfl, rfl⟩)
      clear CS
      go_loopw [7, 8, 9, 39] (fun u v t i wr => ∃ j : Nat, j ≤ k ∧ i = .int .i64 (j : Int) ∧ OwnI .i64 2 wr w.heap.size u (quotsW s (xs.take j)) ∧ OwnI .i64 2 wr w.heap.size v (restsW s (xs.take j)) ∧ Apart u v ∧ t = .int .i64 (16384 - (quotsW s (xs.take j)).sum) ∧ Below w.heap.size w wr) (fun _ _ _ i _ => k - (intOf i).toNat)
      case atStart => exact ⟨0, by omega, rfl, OwnI.nil _ _ _ _, OwnI.nil _ _ _ _, Apart.nil _, rfl, Below.refl _ _⟩
      case round =>
        obtain ⟨j, hj, rfl, ho, hq, hap, rfl, hb⟩ := hrel
        have HO := hide ho
        have HQ := hide hq
        have HA := hide hap
        have HB := hide hb
        clear ho hq hap hb
        by_cases hlt : j < k
        · obtain ⟨b, off, rfl, hc⟩ := (HR.out.below HB.out).get (show j < xs.length by rw [HN.out]; exact hlt)
          have hsm := mem_getD HH.out (show j < xs.length by rw [HN.out]; exact hlt)
          obtain ⟨q0, q1, r0, r1⟩ := quotW_small s0 hsm
          have CF := fun w => reffloor_any (xs.getD j 0 * 16384) s (by unfold smallW at hsm; omega) (by unfold smallW at hsm; omega) (by omega) (by omega) w
          rw [show floorF (xs.getD j 0 * 16384) s = quotW s (xs.getD j 0) from rfl] at CF
          have HT := hide (take_step xs (show j < xs.length by rw [HN.out]; exact hlt))
          have HRW := hide (show restW s (xs.getD j 0) = xs.getD j 0 * 16384 - quotW s (xs.getD j 0) * s from rfl)
          have sq := quots_in s0 (xs.take j) (fun x hx => HH.out x (List.mem_of_mem_take hx))
          have tl : (xs.take j).length = j := by rw [List.length_take]; have := HN.out; omega
          rw [tl] at sq
          have HL1 := hide ((quotsW_len s (xs.take j)).trans tl)
          have HL2 := hide ((restsW_len s (xs.take j)).trans tl)
          obtain ⟨sq0, sq1⟩ := sq
          clear tl
          unfold smallW at hsm
          obtain ⟨x0, x1⟩ := hsm
          generalize xs.getD j 0 = x at *
          generalize hqe : quotW s x = q at *
          generalize hse : (quotsW s (xs.take j)).sum = S at *
          have HQE := hide hqe
          have HSE := hide hse
          clear hqe hse
          go_wp2_with (first
            | (go_at_call 146; (with_reducible refine (CF _).mono ?_); rintro e w2 ⟨rfl, b2⟩)
            | (at_builtin; refine wpList_append_apart _ rfl (.tmp 47) (.tmp 49) 47 rfl w.heap.size 2 i0 (.int .i64 0) 1 8 Tryz.underlying47 hi hz0 hz1 hz2 rfl (by decide) _ _ _ rfl ((HO.out.below b2).alloc _) ⟨w2.heap.size, 0, none⟩ 1 1 [.int .i64 q] rfl rfl (new_one _ _ _) (one_int _ _) (by rw [HL1.out]; unfold maxLen; omega) (by rw [HL1.out]; omega) (by have := HB.out.size; have := b2.size; simp; omega) ?_; intro u' w3 own3 grow3 ap3)
            | (at_builtin; refine wpList_append_apart _ rfl (.tmp 51) (.tmp 58) 47 rfl w.heap.size 2 i0 (.int .i64 0) 1 8 Tryz.underlying47 hi hz0 hz1 hz2 rfl (by decide) _ _ _ rfl ((OwnI.kept ((HQ.out.below b2).alloc _) grow3 HA.out.symm).alloc _) ⟨w3.heap.size, 0, none⟩ 1 1 [.int .i64 (x * 16384 - q * s)] rfl rfl (new_one _ _ _) (one_int _ _) (by rw [HL2.out]; unfold maxLen; omega) (by rw [HL2.out]; omega) (by have := HB.out.size; have := b2.size; have g3 := grow3.size; simp at g3 ⊢; omega) ?_; intro v' w4 own4 grow4 ap4))
          have O3 : OwnI .i64 2 w3 w.heap.size u' (quotsW s (xs.take j) ++ [q]) := OwnI.append own3
          have Q4 : OwnI .i64 2 w4 w.heap.size v' (restsW s (xs.take j) ++ [x * 16384 - q * s]) := OwnI.append own4
          have A3 := Apart.grown HA.out ((HQ.out.below b2).alloc _).lt ap3
          have O4 := OwnI.kept (O3.alloc _) grow4 A3
          have A4 := Apart.grown A3.symm (O3.alloc _).lt ap4
          have B2 := bt HB.out b2
          have B3 := (B2.alloc B2.size _).grown grow3 (by have := B2.size; simp; omega) (fun g hg => (World.ownsRow.lt (HO.out.below b2) g hg).1)
          have B4 := (B3.alloc B3.size _).grown grow4 (by have := B3.size; simp; omega) (fun g hg => (World.ownsRow.lt (OwnI.kept ((HQ.out.below b2).alloc _) grow3 HA.out.symm) g hg).1)
          have H4 := hide (And.intro O4 (And.intro Q4 (And.intro A4 B4)))
          clear own3 own4 grow3 grow4 ap3 ap4 O3 Q4 A3 O4 A4 B2 B3 B4 b2 CF
          go_wp2
          go_roundw
          case rel =>
            obtain ⟨O4, Q4, A4, B4⟩ := H4.out
            refine ⟨j + 1, by omega, by go_num, ?_, ?_, A4.symm, ?_, B4⟩
            · rw [HT.out, quotsW_snoc, HQE.out]; exact O4
            · rw [HT.out, restsW_snoc, HRW.out]; exact Q4
            · rw [HT.out, quotsW_snoc, HQE.out, List.sum_append, HSE.out, List.sum_singleton, show 16384 - (S + q) = 16384 - S - q by omega]
          case measure => simp [intOf]; omega
        · obtain rfl : j = k := by omega
          have et : xs.take j = xs := List.take_of_length_le (by rw [HN.out]; exact Nat.le_refl _)
          obtain ⟨ad1, cap1, rfl, _, f1, f2, _⟩ := HO.out.form
          obtain ⟨ad2, cap2, rfl, _, f3, f4, _⟩ := HQ.out.form
          have HQ0 := HQ.out
          have HO0 := HO.out
          have HA0 := HA.out
          clear HO HQ HA
          rw [et] at f1 f3 HO0 HQ0 HA0 ⊢
          rw [quotsW_len, HN.out] at HO0 HA0 ⊢
          rw [restsW_len, HN.out] at HQ0 HA0 ⊢
          clear et
          obtain ⟨a1, rfl⟩ : ∃ a, ad1 = some a := by
            cases ad1 with
            | none => have e := (f1 rfl).1; have l := quotsW_len s xs; rw [e, HN.out] at l; simp at l; omega
            | some a => exact ⟨a, rfl⟩
          obtain ⟨a2, rfl⟩ : ∃ a, ad2 = some a := by
            cases ad2 with
            | none => have e := (f3 rfl).1; have l := restsW_len s xs; rw [e, HN.out] at l; simp at l; omega
            | some a => exact ⟨a, rfl⟩
          obtain ⟨g1, rfl, gb1, _⟩ := f2 _ rfl
          obtain ⟨g2, rfl, gb2, _⟩ := f4 _ rfl
          have hne : g2 ≠ g1 := fun e => HA0 g1 rfl (by rw [e]; rfl)
          obtain ⟨ST, L0, _⟩ := fits_setting HF.out
          rw [HS.out] at ST L0
          rw [HN.out] at ST
          have EX : appR xs = (giveN (quotsW s xs) (restsW s xs) (leftW s xs).toNat).1 := by unfold appR; rw [HS.out]
          obtain ⟨lf, hlf⟩ : ∃ lf : Nat, leftW s xs = (lf : Int) := ⟨(leftW s xs).toNat, by omega⟩
          rw [show (leftW s xs).toNat = lf by omega] at ST EX
          rw [show (16384 - (quotsW s xs).sum : Int) = (lf : Int) from hlf]
          have lb : (lf : Int) ≤ 70368744194048 := by
            have := (quots_in s0 xs HH.out).1
            rw [HN.out] at this
            have e : leftW s xs = 16384 - (quotsW s xs).sum := rfl
            omega
          have QI : ∀ b, b < j → -67108864 ≤ (quotsW s xs).getD b 0 ∧ (quotsW s xs).getD b 0 ≤ 67108864 := by
            intro b hb
            unfold quotsW
            rw [getD_map _ _ (by rw [HN.out]; exact hb)]
            have := quotW_small s0 (mem_getD HH.out (show b < xs.length by rw [HN.out]; exact hb))
            exact ⟨this.1, this.2.1⟩
          have HST := hide ST
          have HEX := hide EX
          have HQI := hide QI
          have HO := hide HO0
          have HQ := hide HQ0
          generalize quotsW s xs = Q0 at *
          generalize restsW s xs = R0 at *
          clear f1 f2 f3 f4 HA0 HO0 HQ0 ST EX QI L0 hlf hlt hj
          go_wp2
          go_loopg [9] lf (fun r t wq => ∃ m : Nat, m + r = lf ∧ t = .int .i64 ((lf : Int) - (m : Int)) ∧ OwnI .i64 2 wq w.heap.size (.slice (some ⟨g1, 0, none⟩) j cap1) (giveN Q0 R0 m).1 ∧ OwnI .i64 2 wq w.heap.size (.slice (some ⟨g2, 0, none⟩) j cap2) (giveN Q0 R0 m).2 ∧ Below w.heap.size w wq)
          case atStart => exact ⟨0, by omega, by simp, HO.out, HQ.out, HB.out⟩
          case round =>
            clear HO HQ HB
            obtain ⟨m, hm, rfl, ho, hq, hb⟩ := hrel
            obtain ⟨G, hG⟩ : ∃ G, G = gk := ⟨_, rfl⟩
            subst hG
            obtain ⟨W, hW⟩ : ∃ W, W = wr := ⟨_, rfl⟩
            subst hW
            have HM := hide hm
            have HO := hide ho
            have HQ := hide hq
            have HB := hide hb
            obtain ⟨l1, l2⟩ := giveN_len Q0 R0 m
            rw [HST.out.ql] at l1
            rw [HST.out.rl] at l2
            have HL1 := hide l1
            have HL2 := hide l2
            clear hm ho hq hb l1 l2
            by_cases hlt : m < lf
            · go_wp2
              go_loopg [13, 68] j (fun r b i wi => ∃ t : Nat, t + r = j ∧ i = .int .i64 (t : Int) ∧ b = .int .i64 ((bestTo (giveN Q0 R0 m).2 t : Nat) : Int) ∧ Below W.heap.size W wi)
              case atStart => exact ⟨0, by omega, rfl, rfl, Below.refl _ _⟩
              case round =>
                obtain ⟨t, ht, rfl, rfl, hb⟩ := hrel
                have HT := hide ht
                have HB2 := hide hb
                have BL := bestTo_lt (giveN Q0 R0 m).2 t
                have HBS := hide (show bestTo (giveN Q0 R0 m).2 (t + 1) = if (giveN Q0 R0 m).2.getD (bestTo (giveN Q0 R0 m).2 t) 0 < (giveN Q0 R0 m).2.getD t 0 then t else bestTo (giveN Q0 R0 m).2 t from rfl)
                have tj : t ≤ j := by omega
                clear ht hb
                by_cases hlt2 : t < j
                · have c1 := (HQ.out.below HB2.out).cellAt HL2.out hlt2
                  have c2 := (HQ.out.below HB2.out).cellAt HL2.out (show bestTo (giveN Q0 R0 m).2 t < j by omega)
                  have bj : bestTo (giveN Q0 R0 m).2 t < j := by omega
                  clear BL
                  by_cases g : (giveN Q0 R0 m).2.getD (bestTo (giveN Q0 R0 m).2 t) 0 < (giveN Q0 R0 m).2.getD t 0
                  · have e := HBS.out
                    rw [if_pos g] at e
                    have HE := hide e
                    clear e HBS
                    generalize bestTo (giveN Q0 R0 m).2 t = B at *
                    generalize (giveN Q0 R0 m).2.getD B 0 = y at *
                    generalize (giveN Q0 R0 m).2.getD t 0 = x at *
                    go_wp2_with fail
                    go_quiet (fail)
                    go_wp2
                    go_roundg (gk - 1)
                    case measure => have := HT.out; omega
                    case rel => exact ⟨t + 1, by have := HT.out; omega, by go_num, by rw [HE.out], bdN HB2.out _⟩
                  · have e := HBS.out
                    rw [if_neg g] at e
                    have HE := hide e
                    clear e HBS
                    generalize bestTo (giveN Q0 R0 m).2 t = B at *
                    generalize (giveN Q0 R0 m).2.getD B 0 = y at *
                    generalize (giveN Q0 R0 m).2.getD t 0 = x at *
                    go_wp2_with fail
                    go_quiet (fail)
                    go_wp2
                    go_roundg (gk - 1)
                    case measure => have := HT.out; omega
                    case rel => exact ⟨t + 1, by have := HT.out; omega, by go_num, by rw [HE.out], bdN HB2.out _⟩
                · obtain rfl : t = j := by omega
                  have bj : bestTo (giveN Q0 R0 m).2 t < t := by omega
                  have E1 := hide (show (giveN Q0 R0 (m + 1)).1 = (giveN Q0 R0 m).1.set (bestTo (giveN Q0 R0 m).2 t) ((giveN Q0 R0 m).1.getD (bestTo (giveN Q0 R0 m).2 t) 0 + 1) by
                    have := HL2.out
                    show (giveN Q0 R0 m).1.set (bestTo (giveN Q0 R0 m).2 (giveN Q0 R0 m).2.length) ((giveN Q0 R0 m).1.getD (bestTo (giveN Q0 R0 m).2 (giveN Q0 R0 m).2.length) 0 + 1) = _
                    rw [this])
                  have E2 := hide (show (giveN Q0 R0 (m + 1)).2 = (giveN Q0 R0 m).2.set (bestTo (giveN Q0 R0 m).2 t) (-1) by
                    have := HL2.out
                    show (giveN Q0 R0 m).2.set (bestTo (giveN Q0 R0 m).2 (giveN Q0 R0 m).2.length) (-1) = _
                    rw [this])
                  have ob : -67108864 ≤ (giveN Q0 R0 m).1.getD (bestTo (giveN Q0 R0 m).2 t) 0 ∧ (giveN Q0 R0 m).1.getD (bestTo (giveN Q0 R0 m).2 t) 0 ≤ 67108865 := by
                    have q := HQI.out _ bj
                    rcases (give_inv HST.out m (by have := HM.out; omega)).each _ bj with e | e
                    · have := e.2; omega
                    · have := e.2.1; omega
                  obtain ⟨ob0, ob1⟩ := ob
                  have OO := HO.out.below HB2.out
                  have QQ := HQ.out.below HB2.out
                  have c1 := OO.cellAt HL1.out bj
                  have z1 := OO.frozenAt HL1.out (bestTo (giveN Q0 R0 m).2 t)
                  have QS := OwnI.other (u := .int .i64 ((giveN Q0 R0 m).1.getD (bestTo (giveN Q0 R0 m).2 t) 0 + 1)) QQ g1 (bestTo (giveN Q0 R0 m).2 t) hne.symm
                  have c2 := QS.cellAt HL2.out bj
                  have z2 := QS.frozenAt HL2.out (bestTo (giveN Q0 R0 m).2 t)
                  have HF3 := hide (OwnI.other (u := .int .i64 (-1)) (OO.stored HL1.out (bestTo (giveN Q0 R0 m).2 t) ((giveN Q0 R0 m).1.getD (bestTo (giveN Q0 R0 m).2 t) 0 + 1)) g2 (bestTo (giveN Q0 R0 m).2 t) hne)
                  have HF4 := hide (QS.stored HL2.out (bestTo (giveN Q0 R0 m).2 t) (-1))
                  have HF5 := hide (bs (bs (bt HB.out HB2.out) gb1 (b := g1) (o := bestTo (giveN Q0 R0 m).2 t) (.int .i64 ((giveN Q0 R0 m).1.getD (bestTo (giveN Q0 R0 m).2 t) 0 + 1))) gb2 (b := g2) (o := bestTo (giveN Q0 R0 m).2 t) (.int .i64 (-1)))
                  clear OO QQ QS BL HBS
                  generalize bestTo (giveN Q0 R0 m).2 t = B at *
                  generalize (giveN Q0 R0 m).1.getD B 0 = a at *
                  go_wp2
                  go_roundg (G - 1)
                  case measure => have := HM.out; omega
                  case rel => exact ⟨m + 1, by have := HM.out; omega, by go_num, by rw [E1.out]; exact HF3.out, by rw [E2.out]; exact HF4.out, HF5.out⟩
            · obtain rfl : m = lf := by have := HM.out; omega
              have O5 := hide (show OwnI .i64 2 W w.heap.size (.slice (some ⟨g1, 0, none⟩) j cap1) (appR xs) by rw [HEX.out]; exact HO.out)
              clear HO HQ
              go_wp2
              exact bodyPost_ret (v := .tuple #[.slice (some ⟨g1, 0, none⟩) j cap1, .int .i64 0]) (by simp [results, Tryz.results124, go_sem]) rfl ⟨_, rfl, O5.out, HB.out⟩
end Go.Proofs.YtaafhjngnjjcmaaGreatDoor
