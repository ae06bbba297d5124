/-
  Imports alone: regions that draw their order and hold calls.
-/
import Derived.Test.YtggbnkbhobbopaaProg
import Derived.Deep.RegionHeld3
import Derived.Lib.QuietBelow
namespace Go.Proofs.Ytggbnkbhobbopaa
end Go.Proofs.Ytggbnkbhobbopaa
