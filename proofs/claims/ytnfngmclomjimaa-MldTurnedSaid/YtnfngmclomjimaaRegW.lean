/-
  Nothing but imports that a walk through a region with calls wants.
-/
import Derived.Deep.RegionWith
import Derived.StillTailTactics
import Derived.Laws.BitsAllLaws
namespace Go.Proofs.Ytnfngmclomjimaa
end Go.Proofs.Ytnfngmclomjimaa
