/-
  Filters: filter.merge with the closure of join. A contract over the translated program.
-/
import Derived.Test.YtceilgeefegbmaaFlB
namespace Go.Proofs.Ytceilgeefegbmaa
open Go.RowKit
set_option linter.unusedVariables false

end Go.Proofs.Ytceilgeefegbmaa
