/- Heads: the law on any bytes, out of what the program's Parse answers. -/
import Derived.Test.YtmkkhgnhpcgaaaaDoorS10F
namespace Go.Proofs.YtmkkhgnhpcgaaaaDoor
open Go.RowKit


theorem infoU8 : (Tryd.prog.info? 5).map (fun i => (i.zero, i.size, i.bytes)) = some (some (.int .u8 0), 1, 1) := by kernel_rfl
end Go.Proofs.YtmkkhgnhpcgaaaaDoor
