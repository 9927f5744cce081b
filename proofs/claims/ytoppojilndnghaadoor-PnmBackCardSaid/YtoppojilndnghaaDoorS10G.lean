/- Heads: the law on any bytes, out of what the program's Parse answers. -/
import Derived.Test.YtoppojilndnghaaDoorS10F
namespace Go.Proofs.YtoppojilndnghaaDoor
open Go.RowKit


theorem infoU8 : (Tryd.prog.info? 5).map (fun i => (i.zero, i.size, i.bytes)) = some (some (.int .u8 0), 1, 1) := by kernel_rfl
/-- 'string(b)'. -/
theorem conv_run {w : World} {xs : List Int} {n : Nat} {ad : Option Addr} (cap : Nat) (hn : xs.length = n) (hr : RowAt .u8 w ad xs) : (convert 22 9 (.slice ad n cap)).run Tryd.prog w = .ok (.string (strOfNums xs)) w := by
  by_cases h0 : xs = []
  · subst h0
    subst hn
    rcases ad with _ | a
    · exact run_convert_bytes_nil (P := Tryd.prog) w 22 5 Tryd.underlying22 Tryd.underlying5 0 cap 9 Tryd.underlying9
    · rw [run_convert_bytes_string w 22 9 5 (some a) _ cap Tryd.underlying22 Tryd.underlying5 Tryd.underlying9]
      exact run_bytesToString w a 0 cap [] (by simp [loadCells, loadCellsFrom])
  · rcases hr with h | ⟨b, off, rfl, hc⟩
    · exact absurd h h0
    · exact run_convert_bytes_arg (P := Tryd.prog) w 22 5 Tryd.underlying22 Tryd.underlying5 b off n cap xs hn (fun i hi => hc i (by omega)) 9 Tryd.underlying9
end Go.Proofs.YtoppojilndnghaaDoor
