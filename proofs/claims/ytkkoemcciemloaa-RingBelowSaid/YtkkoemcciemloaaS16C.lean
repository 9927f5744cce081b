/- Heaps: lists of numbers, the least one first. Plain; no number of the program stands in it. -/
import Derived.Test.YtkkoemcciemloaaM
namespace Go.Proofs.Ytkkoemcciemloaa


def swp (h : List Int) (i j : Nat) : List Int := (h.set i (h.getD j 0)).set j (h.getD i 0)
theorem swp_length (h : List Int) (i j : Nat) : (swp h i j).length = h.length := by unfold swp; simp
theorem getD_set (h : List Int) (i k : Nat) (x : Int) (hi : i < h.length) : (h.set i x).getD k 0 = if k = i then x else h.getD k 0 := by
  rw [List.getD_eq_getElem?_getD, List.getD_eq_getElem?_getD]
  by_cases e : k = i
  · subst e
    rw [List.getElem?_set_self hi, if_pos rfl]; rfl
  · rw [List.getElem?_set_ne (fun g => e g.symm), if_neg e]
theorem swp_getD (h : List Int) {i j : Nat} (hi : i < h.length) (hj : j < h.length) (k : Nat) : (swp h i j).getD k 0 = if k = j then h.getD i 0 else if k = i then h.getD j 0 else h.getD k 0 := by
  unfold swp
  rw [getD_set _ _ _ _ (by simpa using hj), getD_set _ _ _ _ hi]
theorem swp_perm (h : List Int) {i j : Nat} (hi : i < h.length) (hj : j < h.length) : (swp h i j).Perm h := by
  have e : swp h i j = (h.toArray.swap i j (by simpa using hi) (by simpa using hj)).toList := by
    rw [Array.swap_def]
    unfold swp
    simp [List.getD_eq_getElem?_getD, List.getElem?_eq_getElem hi, List.getElem?_eq_getElem hj]
  rw [e]
  have := Array.swap_perm (xs := h.toArray) (i := i) (j := j) (by simpa using hi) (by simpa using hj)
  exact Array.perm_iff_toList_perm.1 this
/-- The first n of them are a heap. -/
def HeapN (h : List Int) (n : Nat) : Prop := ∀ k, 0 < k → k < n → h.getD ((k - 1) / 2) 0 ≤ h.getD k 0
/-- A heap but for j, which may be too small. -/
def UpOk (h : List Int) (n j : Nat) : Prop := (∀ k, 0 < k → k < n → k ≠ j → h.getD ((k - 1) / 2) 0 ≤ h.getD k 0) ∧ (0 < j → ∀ k, 0 < k → k < n → (k - 1) / 2 = j → h.getD ((j - 1) / 2) 0 ≤ h.getD k 0)
/-- A heap but for i, which may be too great. -/
def DnOk (h : List Int) (n i : Nat) : Prop := (∀ k, 0 < k → k < n → (k - 1) / 2 ≠ i → h.getD ((k - 1) / 2) 0 ≤ h.getD k 0) ∧ (0 < i → ∀ k, 0 < k → k < n → (k - 1) / 2 = i → h.getD ((i - 1) / 2) 0 ≤ h.getD k 0)
theorem up_end {h : List Int} {n j : Nat} (hu : UpOk h n j) (he : j = 0 ∨ h.getD ((j - 1) / 2) 0 ≤ h.getD j 0) : HeapN h n := by
  intro k hk hn
  by_cases e : k = j
  · subst e
    rcases he with he | he
    · omega
    · exact he
  · exact hu.1 k hk hn e
theorem up_step {h : List Int} {n j : Nat} (hl : n ≤ h.length) (hj : j < n) (h0 : 0 < j) (hu : UpOk h n j) (hlt : h.getD j 0 < h.getD ((j - 1) / 2) 0) : UpOk (swp h ((j - 1) / 2) j) n ((j - 1) / 2) := by
  have hp : (j - 1) / 2 < j := by omega
  generalize hpe : (j - 1) / 2 = p at *
  have hS := swp_getD h (i := p) (j := j) (by omega) (by omega)
  obtain ⟨u1, u2⟩ := hu
  refine ⟨fun k hk hn hne => ?_, fun hp0 k hk hn hkp => ?_⟩
  · rw [hS, hS]
    by_cases e : k = j
    · subst e
      rw [hpe, if_pos rfl, if_neg (by omega), if_pos rfl]
      omega
    · rw [if_neg e, if_neg hne]
      have a := u1 k hk hn e
      by_cases e1 : (k - 1) / 2 = j
      · rw [if_pos e1]
        have b := u2 h0 k hk hn e1
        rw [hpe] at b
        exact b
      · rw [if_neg e1]
        by_cases e2 : (k - 1) / 2 = p
        · rw [if_pos e2]
          rw [e2] at a
          omega
        · rw [if_neg e2]
          exact a
  · have a := u1 p hp0 (by omega) (by omega)
    rw [hS, hS, if_neg (by omega), if_neg (by omega)]
    by_cases e : k = j
    · subst e
      rw [if_pos rfl]
      exact a
    · rw [if_neg e, if_neg (by omega)]
      have b := u1 k hk hn e
      rw [hkp] at b
      omega
theorem dn_end {h : List Int} {n i : Nat} (hd : DnOk h n i) (he : ∀ k, 0 < k → k < n → (k - 1) / 2 = i → h.getD i 0 ≤ h.getD k 0) : HeapN h n := by
  intro k hk hn
  by_cases e : (k - 1) / 2 = i
  · rw [e]; exact he k hk hn e
  · exact hd.1 k hk hn e
theorem dn_step {h : List Int} {n i j : Nat} (hl : n ≤ h.length) (hj : j < n) (h0 : 0 < j) (hji : (j - 1) / 2 = i) (hd : DnOk h n i) (hlt : h.getD j 0 ≤ h.getD i 0) (hm : ∀ k, 0 < k → k < n → (k - 1) / 2 = i → h.getD j 0 ≤ h.getD k 0) : DnOk (swp h i j) n j := by
  have hS := swp_getD h (i := i) (j := j) (by omega) (by omega)
  obtain ⟨d1, d2⟩ := hd
  refine ⟨fun k hk hn hne => ?_, fun _ k hk hn hkj => ?_⟩
  · rw [hS, hS]
    by_cases e : k = j
    · subst e
      rw [hji, if_neg (by omega), if_pos rfl, if_pos rfl]
      exact hlt
    · rw [if_neg e, if_neg hne]
      by_cases e1 : (k - 1) / 2 = i
      · rw [if_pos e1, if_neg (by omega)]
        exact hm k hk hn e1
      · rw [if_neg e1]
        have a := d1 k hk hn e1
        by_cases e2 : k = i
        · subst e2
          rw [if_pos rfl]
          exact d2 (by omega) j h0 hj hji
        · rw [if_neg e2]
          exact a
  · rw [hS, hS, hji, if_neg (by omega), if_pos rfl, if_neg (by omega), if_neg (by omega)]
    have a := d1 k hk hn (by omega)
    rw [hkj] at a
    exact a
/-- The first one is the least. -/
theorem heap_least {h : List Int} {n : Nat} (hh : HeapN h n) : ∀ k, k < n → h.getD 0 0 ≤ h.getD k 0 := by
  intro k
  induction k using Nat.strongRecOn with
  | ind k ih =>
    intro hn
    by_cases e : k = 0
    · subst e; exact Int.le_refl _
    · have a := hh k (by omega) hn
      have b := ih ((k - 1) / 2) (by omega) (by omega)
      omega
theorem heap_push {h : List Int} {n : Nat} (hn : h.length = n) (hh : HeapN h n) (x : Int) : UpOk (h ++ [x]) (n + 1) n := by
  have old : ∀ k, k < n → (h ++ [x]).getD k 0 = h.getD k 0 := fun k hk => by
    rw [List.getD_eq_getElem?_getD, List.getD_eq_getElem?_getD, List.getElem?_append_left (by omega)]
  refine ⟨fun k hk hkn hne => ?_, fun _ k hk hkn hkp => ?_⟩
  · rw [old k (by omega), old _ (by omega)]
    exact hh k hk (by omega)
  · omega
theorem heap_swap {h : List Int} {n : Nat} (hn : h.length = n + 1) (hh : HeapN h (n + 1)) : DnOk (swp h 0 n) n 0 := by
  have hS := swp_getD h (i := 0) (j := n) (by omega) (by omega)
  refine ⟨fun k hk hkn hne => ?_, fun h0 => absurd h0 (by omega)⟩
  rw [hS, hS, if_neg (by omega), if_neg (by omega), if_neg (by omega), if_neg (by omega)]
  exact hh k hk (by omega)
theorem heap_nil : HeapN [] 0 := fun _ _ h => absurd h (Nat.not_lt_zero _)
theorem getD_take (h : List Int) {n k : Nat} (hk : k < n) : (h.take n).getD k 0 = h.getD k 0 := by
  rw [List.getD_eq_getElem?_getD, List.getD_eq_getElem?_getD, List.getElem?_take, if_pos hk]
theorem heap_take {h : List Int} {n : Nat} (hh : HeapN h n) : HeapN (h.take n) n := by
  intro k hk hn
  rw [getD_take h hn, getD_take h (by omega)]
  exact hh k hk hn
/-- The same numbers beyond n: those ahead are the same, too. -/
theorem take_perm {h h' : List Int} {n : Nat} (hp : h'.Perm h) (he : h'.drop n = h.drop n) : (h'.take n).Perm (h.take n) := by
  have a : (h'.take n ++ h'.drop n).Perm (h.take n ++ h.drop n) := by rw [List.take_append_drop, List.take_append_drop]; exact hp
  rw [he] at a
  exact (List.perm_append_right_iff _).1 a
theorem drop_swp {h : List Int} {i j n : Nat} (hi : i < n) (hj : j < n) : (swp h i j).drop n = h.drop n := by
  unfold swp
  rw [List.drop_set_of_lt hj, List.drop_set_of_lt hi]
/-- Behind the swap of the first and the last one: the rest are the others. -/
theorem swap_rest {h : List Int} {n : Nat} (hn : h.length = n + 1) : (swp h 0 n).getD n 0 = h.getD 0 0 ∧ ((swp h 0 n).take n ++ [h.getD 0 0]).Perm h := by
  have hS := swp_getD h (i := 0) (j := n) (by omega) (by omega)
  have a : (swp h 0 n).getD n 0 = h.getD 0 0 := by rw [hS, if_pos rfl]
  refine ⟨a, ?_⟩
  have e : (swp h 0 n) = (swp h 0 n).take n ++ [h.getD 0 0] := by
    have hl : (swp h 0 n).length = n + 1 := by rw [swp_length, hn]
    rw [← a, ← List.take_append_drop n (swp h 0 n)]
    congr 1
    · rw [List.take_append_drop]
    · rw [List.take_append_drop, List.drop_eq_getElem_cons (by omega), List.drop_of_length_le (by omega), List.getD_eq_getElem?_getD, List.getElem?_eq_getElem (by omega)]
      rfl
  rw [← e]
  exact swp_perm h (by omega) (by omega)
end Go.Proofs.Ytkkoemcciemloaa
