/-
  Which messages of one group may be, and their bytes: igmp.isDetailed, oneByte, tellingMayBe, mayBe, one, Encode where a message is neither a query nor a report of version 3.
-/
import Derived.Test.YtnfngmclomjimaaIgW
import Derived.Test.YtnfngmclomjimaaIgA
import Derived.Test.YtnfngmclomjimaaFill
namespace Go.Proofs.Ytnfngmclomjimaa
open Go.RowKit
set_option linter.unusedVariables false

def detB (q : Bool) (rob ev : Int) (ns : Nat) : Bool := q || decide (rob ≠ 0) || decide (ev ≠ 0) || decide (ns ≠ 0)
def oneB (k v : Int) : Int × Bool :=
  if k = 2 ∧ v = 1 then (18, true) else if k = 2 ∧ v = 2 then (22, true) else if k = 3 ∧ v = 2 then (23, true) else (0, false)

def tellB (k v : Int) (g : ByteArray) (nr : Nat) : Bool := (oneB k v).2 && grpB g 4 && decide (nr = 0)

def mayOneB (k v : Int) (g : ByteArray) (mx : Int) (q : Bool) (rob ev : Int) (ns nr : Nat) : Bool := decide (mx = 0) && !detB q rob ev ns && tellB k v g nr

end Go.Proofs.Ytnfngmclomjimaa
