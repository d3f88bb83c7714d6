/- Rows of whole numbers that come in. No conditions. -/
import Derived.Test.YtcbphalhjajapaaHEndsWalk
import Derived.Test.YtcbphalhjajapaaHBlk
namespace Go.Proofs.Ytcbphalhjajapaa.Clep
open Go.RowKit
set_option linter.unusedVariables false
set_option maxRecDepth 10000
set_option linter.unusedSimpArgs false

end Go.Proofs.Ytcbphalhjajapaa.Clep
