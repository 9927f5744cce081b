/- The document's images, as values; what the statements ask of both. -/
import Derived.Test.YtoppojilndnghaaDoorS09H
namespace Go.Proofs.YtoppojilndnghaaDoor
open Go.RowKit


/-- The document's image as a value: its samples lie in the block b. -/
def imV (I : Im) (b n cap : Nat) : Value := .agg #[.int .i64 I.iw, .int .i64 I.ih, .int .i64 I.ic, .int .i64 I.it, .slice (some ⟨b, 0, none⟩) n cap]
end Go.Proofs.YtoppojilndnghaaDoor
