/-
  Filters: filter.merge with the closure of join. A contract over the translated program.
-/
import Derived.Test.YthgafhmgoaglmaaFlB
namespace Go.Proofs.Ythgafhmgoaglmaa
open Go.RowKit
set_option linter.unusedVariables false

end Go.Proofs.Ythgafhmgoaglmaa
