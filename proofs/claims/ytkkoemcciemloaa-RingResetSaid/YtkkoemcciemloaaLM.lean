/- What 'make' makes of numbers of 64 bits. -/
import Derived.Test.YtkkoemcciemloaaLA
import Derived.Deep.RegionLaw
import Derived.Laws.CopyOwn
import Derived.OpenShut
namespace Go.Proofs.Ytkkoemcciemloaa
open Go.RowKit


theorem infoI64Q : (Try.prog.info? 2).map (fun i => (i.zero, i.size, i.bytes)) = some (some (.int .i64 0), 1, 8) := by kernel_rfl
end Go.Proofs.Ytkkoemcciemloaa
