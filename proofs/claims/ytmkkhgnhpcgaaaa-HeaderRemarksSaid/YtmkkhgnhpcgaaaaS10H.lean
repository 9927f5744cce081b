/- Heads: the law on texts that are cut off, out of what the program's calls answer. -/
import Derived.Test.YtmkkhgnhpcgaaaaS10G
namespace Go.Proofs.Ytmkkhgnhpcgaaaa
open Go.RowKit


theorem RowAt.first {k : IntKind} {w : World} {ad : Option Addr} {xs : List Int} (h : RowAt k w ad xs) (n : Nat) : RowAt k w ad (xs.take n) := by
  rcases h with rfl | ⟨b, off, e, c⟩
  · rw [List.take_nil]; exact Or.inl rfl
  · refine Or.inr ⟨b, off, e, fun j hj => ?_⟩
    rw [List.length_take] at hj
    rw [c j (by omega), List.getD_eq_getElem?_getD, List.getD_eq_getElem?_getD, List.getElem?_take, if_pos (by omega)]
/-- '[]byte(s)': a new row. -/
theorem str_bytes (t : ByteArray) (w : World) : ∃ (cap : Nat) (W : World), t.size ≤ cap ∧ (convert 9 22 (.string t)).run Try.prog w = .ok (.slice (some ⟨w.heap.size, 0, none⟩) t.size cap) W ∧ RowAt .u8 W (some ⟨w.heap.size, 0, none⟩) (byt t) ∧ Below w.heap.size w W := by
  refine ⟨_, _, ?_, run_bytes_of_string (P := Try.prog) w 9 22 5 t Try.underlying9 Try.underlying22 Try.underlying5, ?_, ?_⟩
  · exact grownCap_ge _ _ _ _
  · refine Or.inr ⟨w.heap.size, 0, rfl, fun j hj => ?_⟩
    rw [Nat.zero_add]
    have := cell_mark w.drew (bytesRow t (grownCap w t.size 0 5)) 5 ((bytesRow t (grownCap w t.size 0 5)).size, (bytesRow t (grownCap w t.size 0 5)).size + 1) j
    refine Eq.trans this ?_
    rw [byt_len] at hj
    unfold bytesRow
    rw [Array.getElem?_append_left (by rw [Array.size_map]; exact hj), Array.getElem?_map]
    have h' : j < t.data.size := hj
    rw [Array.getElem?_eq_getElem h', ← byt_at hj]
    rfl
  · exact ba (bd (Below.refl _ w)) _
end Go.Proofs.Ytmkkhgnhpcgaaaa
