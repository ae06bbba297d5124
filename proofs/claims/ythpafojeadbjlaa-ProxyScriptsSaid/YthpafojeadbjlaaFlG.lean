/-
  Filters: Check, turned, Diff of two filters that are not of one kind. Contracts over the translated program.
-/
import Derived.Test.YthpafojeadbjlaaFlCk
import Derived.Test.YthpafojeadbjlaaFlE
import Derived.Test.YthpafojeadbjlaaFlF
import Derived.Test.YthpafojeadbjlaaSame
namespace Go.Proofs.Ythpafojeadbjlaa
open Go.RowKit
set_option linter.unusedVariables false

set_option maxHeartbeats 400000 in
theorem turned_c (ex : Bool) (w : World) : Calls Try.prog 59 #[.bool ex] w fun e w' => e = .returned (.int .i64 (if ex then 4 else 3)) ∧ w = w' := by
  cases ex
  all_goals
    go_enter Try.func59, Try.ntmps59
    go_wp2_with fail
    go_ret
    exact ⟨rfl, rfl⟩

/-- What Diff answers. -/
def DiPost (L : List Rec) (w : World) (e : Ending) (w' : World) : Prop := ∃ v, e = .returned v ∧ RecsAt w' v L ∧ Below w.heap.size w w'

end Go.Proofs.Ythpafojeadbjlaa
