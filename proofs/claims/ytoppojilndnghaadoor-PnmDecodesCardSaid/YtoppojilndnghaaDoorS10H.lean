/- Heads: the law on texts that are cut off, out of what the program's calls answer. -/
import Derived.Test.YtoppojilndnghaaDoorS10G
namespace Go.Proofs.YtoppojilndnghaaDoor
open Go.RowKit


theorem RowAt.first {k : IntKind} {w : World} {ad : Option Addr} {xs : List Int} (h : RowAt k w ad xs) (n : Nat) : RowAt k w ad (xs.take n) := by
  rcases h with rfl | ⟨b, off, e, c⟩
  · rw [List.take_nil]; exact Or.inl rfl
  · refine Or.inr ⟨b, off, e, fun j hj => ?_⟩
    rw [List.length_take] at hj
    rw [c j (by omega), List.getD_eq_getElem?_getD, List.getD_eq_getElem?_getD, List.getElem?_take, if_pos (by omega)]
theorem intF_len {n : Int} (h0 : 0 ≤ n) (h1 : n ≤ 65536) : 1 ≤ (intF n).length ∧ (intF n).length ≤ 5 := by
  rw [intF_pos h0]
  refine ⟨?_, decF_len n.toNat 5 (by omega) (by omega)⟩
  match h : decF n.toNat with
  | [] => exact absurd h (decF_ne _)
  | x :: t => simp
theorem intF_in (n : Int) : ∀ x ∈ intF n, 0 ≤ x ∧ x ≤ 255 := by
  intro x hx
  unfold intF at hx
  split at hx
  · rcases List.mem_cons.1 hx with rfl | hx
    · omega
    · have := decF_digit _ x hx
      omega
  · have := decF_digit _ x hx
    omega
theorem textF_in (h : Hd) : ∀ x ∈ textF h, 0 ≤ x ∧ x ≤ 255 := by
  intro x hx
  rw [textF_eq] at hx
  simp only [List.mem_append, List.mem_cons, List.not_mem_nil, or_false] at hx
  have e : ∀ c : Int, (if c = 3 then (54 : Int) else 53) = 54 ∨ (if c = 3 then (54 : Int) else 53) = 53 := fun c => by by_cases q : c = 3 <;> simp [q]
  have e' := e h.hc
  have i1 := intF_in h.hw x
  have i2 := intF_in h.hh x
  have i3 := intF_in h.ht x
  rcases hx with ((((((hx | hx) | hx) | hx) | hx) | hx) | hx) | hx
  all_goals first | exact i1 hx | exact i2 hx | exact i3 hx | omega
theorem textF_len {h : Hd} (hk : codeF h.hw h.hh h.hc h.ht = 0) : 8 ≤ (textF h).length ∧ (textF h).length ≤ 21 := by
  obtain ⟨t0, t1, a0, a1, b0, b1, hc, hm⟩ := codeF_zero hk
  have x1 := intF_len (show 0 ≤ h.hw by omega) (by omega)
  have x2 := intF_len (show 0 ≤ h.hh by omega) (by omega)
  have x3 := intF_len (show 0 ≤ h.ht by omega) (by omega)
  unfold textF
  simp only [List.length_cons, List.length_append, List.length_nil]
  omega
end Go.Proofs.YtoppojilndnghaaDoor
