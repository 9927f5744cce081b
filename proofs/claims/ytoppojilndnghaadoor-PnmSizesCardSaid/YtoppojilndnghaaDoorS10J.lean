/- Heads: the law on texts, out of what the program's calls answer. -/
import Derived.Test.YtoppojilndnghaaDoorS10H
import Derived.Deep.AppendSrc
import Derived.Laws.IdiomCopy
import Derived.OwnWalk
namespace Go.Proofs.YtoppojilndnghaaDoor
open Go.RowKit


theorem intF_len2 {n : Int} (h0 : -9223372036854775808 ≤ n) (h1 : n ≤ 9223372036854775807) : (intF n).length ≤ 20 := by
  unfold intF
  split
  · have := decF_len (-n).toNat 19 (by omega) (by omega)
    rw [List.length_cons]
    omega
  · exact decF_len n.toNat 20 (by omega) (by omega)
theorem textF_len2 {h : Hd} (hin : HdIn h) : (textF h).length ≤ 70 := by
  obtain ⟨⟨x0, x1⟩, ⟨y0, y1⟩, ⟨z0, z1⟩⟩ := hin
  have a := intF_len2 x0 x1
  have b := intF_len2 y0 y1
  have c := intF_len2 z0 z1
  unfold textF
  simp only [List.length_cons, List.length_append, List.length_nil]
  omega
end Go.Proofs.YtoppojilndnghaaDoor
