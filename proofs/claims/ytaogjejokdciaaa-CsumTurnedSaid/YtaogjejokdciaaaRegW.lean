/-
  Nothing but imports that a walk through a region with calls wants.
-/
import Derived.Deep.RegionWith
import Derived.Laws.BitsAllLaws
namespace Go.Proofs.Ytaogjejokdciaaa
end Go.Proofs.Ytaogjejokdciaaa
