/- Heads by places: what stands ahead of a number, and what is left behind it, in bytes from a place on. Plain arithmetic; no number of the program stands in it. -/
import Derived.Test.YtoppojilndnghaaDoorS10B
namespace Go.Proofs.YtoppojilndnghaaDoor
open Go.RowKit


theorem over_fst : ∀ (l : List Int) (r s : Bool), (overF r s l).1 = (overF r false l).1
  | [], r, s => by rw [over_nil, over_nil]
  | x :: t, true, s => rfl
  | x :: t, false, s => by
    show (if x = 35 then overF true true t else if blankF x = true then overF false true t else (x :: t, s)).1 = (if x = 35 then overF true true t else if blankF x = true then overF false true t else (x :: t, false)).1
    split
    · rfl
    · split <;> rfl
theorem over_true : ∀ (l : List Int) (r : Bool), (overF r true l).2 = true
  | [], r => by rw [over_nil]
  | x :: t, true => over_true t _
  | x :: t, false => by
    show (if x = 35 then overF true true t else if blankF x = true then overF false true t else (x :: t, true)).2 = true
    split
    · exact over_true t _
    · split
      · exact over_true t _
      · rfl
theorem over_le : ∀ (l : List Int) (r s : Bool), (overF r s l).1.length ≤ l.length
  | [], r, s => by rw [over_nil]; exact Nat.le_refl _
  | x :: t, true, s => by
    have := over_le t (decide (x ≠ 10 ∧ x ≠ 13)) true
    rw [List.length_cons]
    exact Nat.le_trans this (Nat.le_succ _)
  | x :: t, false, s => by
    show (if x = 35 then overF true true t else if blankF x = true then overF false true t else (x :: t, s)).1.length ≤ _
    have h1 := over_le t true true
    have h2 := over_le t false true
    rw [List.length_cons]
    split
    · omega
    · split
      · omega
      · exact Nat.le_refl _
/-- There was something ahead just if less is left. -/
theorem over_flag (l : List Int) : (overF false false l).2 = decide ((overF false false l).1.length ≠ l.length) := by
  match l with
  | [] => rfl
  | x :: t =>
    show (if x = 35 then overF true true t else if blankF x = true then overF false true t else (x :: t, false)).2 = decide ((if x = 35 then overF true true t else if blankF x = true then overF false true t else (x :: t, false)).1.length ≠ (x :: t).length)
    have h1 := over_le t true true
    have h2 := over_le t false true
    rw [List.length_cons]
    split
    · rw [over_true, decide_eq_true (by omega)]
    · split
      · rw [over_true, decide_eq_true (by omega)]
      · simp
theorem drop_cons {xs : List Int} {k : Nat} (h : k < xs.length) : xs.drop k = xs.getD k 0 :: xs.drop (k + 1) := by
  rw [List.drop_eq_getElem_cons h, List.getD_eq_getElem?_getD, List.getElem?_eq_getElem h]
  rfl
/-- At a place in the midst: the end, a blank, a remark's begin, another byte. -/
theorem overAt_end {xs : List Int} {k : Nat} (h : xs.length ≤ k) (r : Bool) : (overF r false (xs.drop k)).1 = [] := by
  rw [List.drop_eq_nil_of_le h, over_nil]
theorem overAt_blank {xs : List Int} {k : Nat} (h : k < xs.length) (hb : blankF (xs.getD k 0) = true) : (overF false false (xs.drop k)).1 = (overF false false (xs.drop (k + 1))).1 := by
  rw [drop_cons h, over_blank hb, over_fst]
theorem overAt_hash {xs : List Int} {k : Nat} (h : k < xs.length) (hb : xs.getD k 0 = 35) : (overF false false (xs.drop k)).1 = (overF true false (xs.drop (k + 1))).1 := by
  rw [drop_cons h, hb, over_hash, over_fst]
theorem overAt_other {xs : List Int} {k : Nat} (h : k < xs.length) (hb : blankF (xs.getD k 0) = false) (h35 : xs.getD k 0 ≠ 35) : (overF false false (xs.drop k)).1 = xs.drop k := by
  rw [drop_cons h]
  show (if xs.getD k 0 = 35 then _ else if blankF (xs.getD k 0) = true then _ else (xs.getD k 0 :: xs.drop (k + 1), false)).1 = _
  rw [if_neg h35, if_neg (by rw [hb]; decide)]
theorem overAt_in {xs : List Int} {k : Nat} (h : k < xs.length) (h10 : xs.getD k 0 ≠ 10) (h13 : xs.getD k 0 ≠ 13) : (overF true false (xs.drop k)).1 = (overF true false (xs.drop (k + 1))).1 := by
  rw [drop_cons h]
  show (overF (decide (xs.getD k 0 ≠ 10 ∧ xs.getD k 0 ≠ 13)) true (xs.drop (k + 1))).1 = _
  rw [decide_eq_true ⟨h10, h13⟩, over_fst]
theorem overAt_out {xs : List Int} {k : Nat} (h : k < xs.length) (hx : xs.getD k 0 = 10 ∨ xs.getD k 0 = 13) : (overF true false (xs.drop k)).1 = (overF false false (xs.drop k)).1 := by
  have hb : blankF (xs.getD k 0) = true := blankF_iff.2 (by omega)
  rw [overAt_blank h hb, drop_cons h]
  show (overF (decide (xs.getD k 0 ≠ 10 ∧ xs.getD k 0 ≠ 13)) true (xs.drop (k + 1))).1 = _
  rw [decide_eq_false (by omega), over_fst]
theorem digitsAt_more {xs : List Int} {k : Nat} (h : k < xs.length) (hd : digitF (xs.getD k 0) = true) (n : Int) : digitsF n (xs.drop k) = digitsF (min (10 * n + (xs.getD k 0 - 48)) 1000000000) (xs.drop (k + 1)) := by
  rw [drop_cons h]
  show (if digitF (xs.getD k 0) = true then _ else _) = _
  rw [if_pos hd]
theorem digitsAt_end {xs : List Int} {k : Nat} (h : xs.length ≤ k ∨ digitF (xs.getD k 0) = false) (n : Int) : digitsF n (xs.drop k) = (n, xs.drop k) := by
  by_cases hk : xs.length ≤ k
  · rw [List.drop_eq_nil_of_le hk]; rfl
  · have hd : digitF (xs.getD k 0) = false := by
      rcases h with h | h
      · exact absurd h hk
      · exact h
    exact digitsF_end (by rw [drop_cons (by omega)]; exact .inr hd) n
/-- A number with what stands ahead of it, by places: j behind what stands ahead. -/
theorem numAt_end {xs : List Int} {k : Nat} (h : (overF false false (xs.drop k)).1 = []) : numF (xs.drop k) = (3, 0, []) := by unfold numF; rw [if_pos h]
theorem numAt_bad {xs : List Int} {k j : Nat} (hj : j < xs.length) (hk : k ≤ j) (h : (overF false false (xs.drop k)).1 = xs.drop j) (h' : j = k ∨ digitF (xs.getD j 0) = false) : numF (xs.drop k) = (2, 0, []) := by
  have hf := over_flag (xs.drop k)
  rw [h] at hf
  unfold numF
  rw [h, if_neg (by rw [drop_cons hj]; simp), if_neg]
  rintro ⟨a, b⟩
  rcases h' with rfl | h'
  · rw [hf] at a
    simp at a
  · rw [drop_cons hj] at b
    have : digitF (xs.getD j 0) = true := b
    rw [h'] at this
    cases this
theorem numAt_ok {xs : List Int} {k j : Nat} (hj : j < xs.length) (hk : k < j) (h : (overF false false (xs.drop k)).1 = xs.drop j) (hd : digitF (xs.getD j 0) = true) : numF (xs.drop k) = (0, (digitsF 0 (xs.drop j)).1, (digitsF 0 (xs.drop j)).2) := by
  have hf := over_flag (xs.drop k)
  rw [h] at hf
  unfold numF
  rw [h, if_neg (by rw [drop_cons hj]; simp), if_pos]
  refine ⟨?_, by rw [drop_cons hj]; exact hd⟩
  rw [hf, List.length_drop, List.length_drop]
  exact decide_eq_true (by omega)
end Go.Proofs.YtoppojilndnghaaDoor
