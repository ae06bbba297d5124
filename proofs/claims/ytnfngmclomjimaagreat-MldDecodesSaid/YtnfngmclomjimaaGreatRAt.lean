/-
  The number that stands in a text, the document's answer: siphonref01.At.
-/
import Derived.Test.YtnfngmclomjimaaGreatTxt
import Derived.Test.YtnfngmclomjimaaGreatRefP
namespace Go.Proofs.YtnfngmclomjimaaGreat
open Go.RowKit
set_option linter.unusedVariables false

set_option maxHeartbeats 400000 in
theorem vat_c (s : ByteArray) (a width : Int) (w : World) (hs : s.size ≤ 9223372036854775807) (ha : -9223372036854775808 ≤ a) (h2 : a ≤ 9223372036854775807) :
    Calls Tryz.prog 19 #[.string s, .int .i64 a, .int .i64 width] w fun e w' => e = .returned (.int .i64 (numv s a width)) ∧ w = w' := by
  have H1 := Lib.hid fun U => rget_c s a width U hs ha h2
  go_enter Tryz.func19, Tryz.ntmps19
  go_wp2_with fail
  refine (H1.out _).mono ?_
  rintro e w1 ⟨rfl, rfl⟩
  go_wp2_with fail
  go_ret
  exact ⟨rfl, rfl⟩

end Go.Proofs.YtnfngmclomjimaaGreat
