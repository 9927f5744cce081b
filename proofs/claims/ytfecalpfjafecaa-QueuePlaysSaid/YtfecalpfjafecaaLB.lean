/- What comes in: slices of numbers, opened. -/
import Derived.Test.YtfecalpfjafecaaLA
import Derived.ProofKit
import Derived.OpenShut
namespace Go.Proofs.Ytfecalpfjafecaa
open Go.RowKit


/-- Each number of a list fits its kind. -/
def AllK (k : IntKind) (xs : List Int) : Prop := ∀ n ∈ xs, (Lit.int k n).wf = true
theorem row_open {k : IntKind} {w : World} {a : Option Addr} {len cap : Nat}
    (h : (a = none ∧ len = 0 ∧ cap = 0) ∨ ∃ (x : Addr) (zs : List Int), a = some x ∧ len ≤ cap ∧ cap ≤ maxLen ∧ zs.length = cap ∧ (∀ i, i < zs.length → w.cell? (x.add i) = some (.int k (zs.getD i 0))) ∧ ∀ n ∈ zs, (Lit.int k n).wf = true) :
    ∃ xs : List Int, xs.length = len ∧ RowAt k w a xs ∧ AllK k xs ∧ xs.length ≤ maxLen ∧ (a = none → cap = 0) := by
  rcases h with ⟨rfl, rfl, rfl⟩ | ⟨x, zs, rfl, hl, hm, hz, hc, hw⟩
  · exact ⟨[], rfl, Or.inl rfl, (fun n hn => by cases hn), by simp, fun _ => rfl⟩
  · refine ⟨zs.take len, by rw [List.length_take]; omega, ?_, fun n hn => hw n (List.mem_of_mem_take hn), by rw [List.length_take]; omega, fun h => by cases h⟩
    by_cases h0 : len = 0
    · subst h0; exact Or.inl rfl
    · obtain ⟨b, off, rfl, c⟩ := ints_at hc (by omega)
      refine Or.inr ⟨b, off, rfl, fun j hj => ?_⟩
      rw [List.length_take] at hj
      have := c j (by omega)
      rw [this, List.getD_eq_getElem?_getD, List.getD_eq_getElem?_getD, List.getElem?_take, if_pos (by omega)]
theorem allK_at {k : IntKind} {xs : List Int} (h : AllK k xs) {j : Nat} (hj : j < xs.length) : (Lit.int k (xs.getD j 0)).wf = true := by
  rw [List.getD_eq_getElem?_getD, List.getElem?_eq_getElem hj]
  exact h _ (List.getElem_mem hj)
theorem allK_i64 {xs : List Int} (h : AllK .i64 xs) {j : Nat} (hj : j < xs.length) : -9223372036854775808 ≤ xs.getD j 0 ∧ xs.getD j 0 ≤ 9223372036854775807 := by
  simpa [Lit.wf, IntKind.min, IntKind.max, IntKind.signed, IntKind.bits] using allK_at h hj
theorem allK_i32 {xs : List Int} (h : AllK .i32 xs) {j : Nat} (hj : j < xs.length) : -2147483648 ≤ xs.getD j 0 ∧ xs.getD j 0 ≤ 2147483647 := by
  simpa [Lit.wf, IntKind.min, IntKind.max, IntKind.signed, IntKind.bits] using allK_at h hj
theorem allK_u8 {xs : List Int} (h : AllK .u8 xs) {j : Nat} (hj : j < xs.length) : 0 ≤ xs.getD j 0 ∧ xs.getD j 0 ≤ 255 := by
  simpa [Lit.wf, IntKind.min, IntKind.max, IntKind.signed, IntKind.bits] using allK_at h hj
end Go.Proofs.Ytfecalpfjafecaa
