/- Weights that come to one: places sorted by their rests, and what is given to the first of them. -/
import Derived.Test.YtcfbpilhgnofpaaS06F
import Derived.Shelf.SlSortCmp.Insertion
import Derived.Sort.Statements
namespace Go.Proofs.Ytcfbpilhgnofpaa
open Go.RowKit

/-- 'cmp.Or' of two numbers. -/
def orI (a b : Int) : Int := if a = 0 then b else a
/-- How the program compares two places: the greater rest first, then the lesser place. -/
def cfR (r : List Int) (n : Nat) (x y : Fin n) : Int := orI (Lib.compareInt (r.getD y.val 0) (r.getD x.val 0)) (Lib.compareInt (x.val : Int) (y.val : Int))
theorem cmp_lt (x y : Int) : (Lib.compareInt x y < 0 ↔ x < y) ∧ (Lib.compareInt x y = 0 ↔ x = y) := by
  unfold Lib.compareInt
  by_cases h : x < y
  · rw [if_pos h]; omega
  · rw [if_neg h]
    by_cases g : x > y
    · rw [if_pos g]; omega
    · rw [if_neg g]; omega
theorem cfR_lt (r : List Int) (n : Nat) (x y : Fin n) : ltOf (cfR r n) x y = decide (r.getD y.val 0 < r.getD x.val 0 ∨ (r.getD y.val 0 = r.getD x.val 0 ∧ x.val < y.val)) := by
  unfold ltOf cfR orI
  obtain ⟨a, b⟩ := cmp_lt (r.getD y.val 0) (r.getD x.val 0)
  obtain ⟨c, d⟩ := cmp_lt (x.val : Int) (y.val : Int)
  rw [decide_eq_decide]
  by_cases h : Lib.compareInt (r.getD y.val 0) (r.getD x.val 0) = 0
  · rw [if_pos h]; omega
  · rw [if_neg h]; omega
theorem cfR_swo (r : List Int) (n : Nat) : Sort.SWO (ltOf (cfR r n)) where
  irrefl x := by rw [cfR_lt]; simp
  trans x y z h1 h2 := by rw [cfR_lt] at *; simp only [decide_eq_true_eq] at *; omega
  ntrans x y z h1 h2 := by rw [cfR_lt] at *; simp only [decide_eq_false_iff_not] at *; omega
/-- Places in the order in which what lacks is given. -/
structure Ranked (r : List Int) (p : List Nat) : Prop where
  len : p.length = r.length
  lt : ∀ k, k < p.length → p.getD k 0 < r.length
  all : ∀ j, j < r.length → ∃ k, k < p.length ∧ p.getD k 0 = j
  one : ∀ i k, i < p.length → k < p.length → p.getD i 0 = p.getD k 0 → i = k
  order : ∀ i k, i < k → k < p.length → r.getD (p.getD k 0) 0 < r.getD (p.getD i 0) 0 ∨ (r.getD (p.getD k 0) 0 = r.getD (p.getD i 0) 0 ∧ p.getD i 0 < p.getD k 0)
/-- One more, at each of the first places. -/
def bumpN (o : List Int) (p : List Nat) : Nat → List Int
  | 0 => o
  | m + 1 => (bumpN o p m).set (p.getD m 0) ((bumpN o p m).getD (p.getD m 0) 0 + 1)
theorem bumpN_len (o : List Int) (p : List Nat) (m : Nat) : (bumpN o p m).length = o.length := by
  induction m with
  | zero => rfl
  | succ m ih => unfold bumpN; rw [List.length_set]; exact ih
theorem bumpN_give {o r : List Int} {p : List Nat} (hp : Ranked r p) (hr : ∀ j, j < r.length → 0 ≤ r.getD j 0) (hl : o.length = r.length) (m : Nat) (hm : m ≤ r.length) :
    bumpN o p m = (giveN o r m).1 ∧ (∀ k, k < r.length → (giveN o r m).2.getD (p.getD k 0) 0 = if k < m then -1 else r.getD (p.getD k 0) 0) := by
  induction m with
  | zero => exact ⟨rfl, fun k _ => by rw [if_neg (by omega)]; rfl⟩
  | succ m ih =>
    obtain ⟨e1, e2⟩ := ih (by omega)
    obtain ⟨l1, l2⟩ := giveN_len o r m
    obtain ⟨pl, plt, pall, pone, pord⟩ := hp
    have hb : bestTo (giveN o r m).2 (giveN o r m).2.length = p.getD m 0 := by
      have bl := bestTo_lt (giveN o r m).2 (giveN o r m).2.length
      have bm := bestTo_max (giveN o r m).2 (giveN o r m).2.length
      have bf := bestTo_first (giveN o r m).2 (giveN o r m).2.length
      rw [l2] at bl bm bf ⊢
      generalize bestTo (giveN o r m).2 r.length = b at *
      have vm := e2 m (by omega)
      rw [if_neg (by omega)] at vm
      have pm := plt m (by omega)
      have h0 := hr _ pm
      have mx := bm _ pm
      obtain ⟨k, k1, k2⟩ := pall b (by omega)
      have vk := e2 k (by omega)
      rw [k2] at vk
      by_cases g : k < m
      · rw [if_pos g] at vk; omega
      · rw [if_neg g] at vk
        by_cases gk : k = m
        · subst gk; exact k2.symm
        · have := pord m k (by omega) k1
          rw [k2] at this
          have := bf (p.getD m 0)
          omega
    refine ⟨?_, ?_⟩
    · show (bumpN o p m).set _ _ = ((giveN o r m).1.set _ _)
      rw [e1, hb]
    · intro k hk
      show ((giveN o r m).2.set (bestTo (giveN o r m).2 (giveN o r m).2.length) (-1)).getD (p.getD k 0) 0 = _
      have pm := plt m (by omega)
      rw [hb, getD_set _ _ _ _ (by omega)]
      by_cases g : p.getD m 0 = p.getD k 0
      · have := pone m k (by omega) (by omega) g
        rw [if_pos g, if_pos (by omega)]
      · rw [if_neg g, e2 k hk]
        by_cases g2 : k < m
        · rw [if_pos g2, if_pos (by omega)]
        · rw [if_neg g2]
          by_cases g3 : k < m + 1
          · exfalso; apply g; rw [show k = m by omega]
          · rw [if_neg g3]
/-- The places as the sort leaves them. -/
def placesOf {n : Nat} (d : Array (Fin n)) : List Nat := d.toList.map Fin.val
theorem arr_bang {n : Nat} [Inhabited (Fin n)] (d : Array (Fin n)) {k : Nat} (h : k < d.size) : (placesOf d).getD k 0 = (d[k]!).val := by
  unfold placesOf
  rw [List.getD_eq_getElem?_getD, List.getElem?_map, getElem!_pos d k h]
  simp [h]
theorem ranked_of {r : List Int} {n : Nat} (hn : r.length = n) [Inhabited (Fin n)] (d d' : Array (Fin n)) (h0 : d.toList = List.finRange n) (hp : Sort.PermIn 0 d.size d d') (hs : Sort.SortedIn (ltOf (cfR r n)) 0 d.size d') : Ranked r (placesOf d') := by
  obtain ⟨hz, _, hperm⟩ := hp
  have sz : d.size = n := by rw [← Array.length_toList, h0, List.length_finRange]
  have e0 : (d.extract 0 d.size).toList = d.toList := by simp
  have e1 : (d'.extract 0 d.size).toList = d'.toList := by rw [← hz]; simp
  rw [e0, e1, h0] at hperm
  have pl : (placesOf d').length = n := by unfold placesOf; rw [List.length_map, Array.length_toList]; omega
  have nd : (placesOf d').Nodup := by
    unfold placesOf
    have : d'.toList.Nodup := hperm.nodup_iff.2 (List.nodup_finRange n)
    exact List.pairwise_map.2 (List.Pairwise.imp (fun {a b} h e => h (Fin.ext e)) this)
  refine ⟨by omega, ?_, ?_, ?_, ?_⟩
  · intro k hk
    rw [arr_bang d' (by omega)]
    have := (d'[k]!).isLt
    omega
  · intro j hj
    have hm : (⟨j, by omega⟩ : Fin n) ∈ d'.toList := hperm.mem_iff.2 (List.mem_finRange _)
    obtain ⟨k, hk, e⟩ := List.getElem_of_mem hm
    refine ⟨k, by rw [pl]; simp at hk; omega, ?_⟩
    unfold placesOf
    rw [List.getD_eq_getElem?_getD, List.getElem?_map, List.getElem?_eq_getElem hk, e]
    rfl
  · intro i k hi hk h
    rw [List.getD_eq_getElem?_getD, List.getD_eq_getElem?_getD, List.getElem?_eq_getElem hi, List.getElem?_eq_getElem hk] at h
    exact (List.getElem_inj nd).1 h
  · intro i k hik hk
    have S := hs i k (Nat.zero_le _) hik (by omega)
    rw [cfR_lt] at S
    simp only [decide_eq_false_iff_not] at S
    rw [arr_bang d' (by omega), arr_bang d' (by omega)]
    have ne : (d'[i]!).val ≠ (d'[k]!).val := by
      rw [← arr_bang d' (by omega), ← arr_bang d' (by omega)]
      intro h
      rw [List.getD_eq_getElem?_getD, List.getD_eq_getElem?_getD, List.getElem?_eq_getElem (by omega), List.getElem?_eq_getElem hk] at h
      have := (List.getElem_inj nd).1 h
      omega
    omega
end Go.Proofs.Ytcfbpilhgnofpaa
